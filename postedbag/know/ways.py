"""Ways and rules."""

from postedbag.base.checks import check_program
from postedbag.errors import InvalidOperation, InvalidWay
from postedbag.know.rules import behind_of, has_rule, has_way, posted_of, rules_at
from postedbag.know.tables import table_of


def is_way(program, value):
    """Whether the value is a way of the program."""
    check_program(program)
    return has_way(program, value)


def is_rule(program, value):
    """Whether the value is a rule of the program."""
    check_program(program)
    return has_rule(program, value)


def check_way(program, value):
    """Raise InvalidProgram or InvalidWay unless the values are a program and a way of it."""
    if not is_way(program, value):
        raise InvalidWay("a way of the program is needed")


def check_rule(program, value):
    """Raise InvalidProgram or InvalidOperation unless the values are a program and a rule of it."""
    if not is_rule(program, value):
        raise InvalidOperation("a rule of the program is needed")


def rules_of(program, way):
    """The ascending tuple of the rules of a way."""
    check_way(program, way)
    return tuple(sorted(rules_at(program, way)))


def behind(program, rule):
    """The tuple of the ways behind a rule."""
    check_rule(program, rule)
    return behind_of(program, rule)


def posted_by(program, rule):
    """The name of the task that a rule posts, or None."""
    check_rule(program, rule)
    return posted_of(program, rule)


def good_ways(program):
    """The ascending tuple of all good ways."""
    check_program(program)
    return tuple(sorted(table_of(program).grammar.good()))


def is_good(program, way):
    """Whether a way is good."""
    check_way(program, way)
    return table_of(program).grammar.is_good(way)
