"""What holds for the values that are passed beside a program."""

from postedbag.base.bags import is_bag, is_wide
from postedbag.base.programs import Program
from postedbag.base.words import is_index
from postedbag.errors import InvalidBag, InvalidMode, InvalidProgram, UnknownSite


def check_program(value):
    """Raise InvalidProgram unless the value is a program."""
    if not isinstance(value, Program):
        raise InvalidProgram("a program is needed")


def is_mode(program, value):
    """Whether the value is a mode of the program."""
    return is_index(value, program.modes)


def is_start(program, value):
    """Whether the value is a mode in which runs of the program begin."""
    return is_mode(program, value) and value in program.starts


def is_bag_of(program, value):
    """Whether the value is a bag of the program."""
    return is_bag(value) and len(value) == len(program)


def is_standing(program, value):
    """Whether the value is a standing of the program: a mode and a wide bag."""
    if not isinstance(value, tuple) or len(value) != 2 or not is_mode(program, value[0]):
        return False
    return is_wide(value[1]) and len(value[1]) == len(program)


def is_point(program, name, value):
    """Whether the first value is the name of a procedure and the second one a point of it."""
    return name in program and is_index(value, program[name].points)


def check_mode(program, value):
    """Raise InvalidMode unless the value is a mode of the program."""
    if not is_mode(program, value):
        raise InvalidMode("a mode of the program is needed")


def check_bag(program, value):
    """Raise InvalidBag unless the value is a bag of the program."""
    if not is_bag_of(program, value):
        raise InvalidBag("a bag of the program is needed")


def check_question(program, mode, bag):
    """Raise the error of the first one that is no program, no mode or no bag of it."""
    check_program(program)
    check_mode(program, mode)
    check_bag(program, bag)


def move_at(program, site):
    """The move at a site of the program, or None if it is no site."""
    try:
        return program.move(site)
    except UnknownSite:
        return None
