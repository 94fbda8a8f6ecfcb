"""Piles: how many tasks can wait between two tasks."""

from postedbag.base.bags import ANY, fits
from postedbag.base.checks import check_program
from postedbag.base.words import ascends, is_integer
from postedbag.errors import InvalidNumber, UnknownName
from postedbag.know.tables import table_of
from postedbag.plan.covered import covered_of
from postedbag.plan.rows import filled, row_to_one


def most_waiting(program, name):
    """The greatest number of tasks of a procedure that can wait between two tasks, or ANY."""
    check_program(program)
    if name not in program:
        raise UnknownName(name)
    at = program.names.index(name)
    entries = [bag[at] for _, bag in covered_of(program).summits]
    return ANY if ANY in entries else max(entries)


def is_bounded(program):
    """Whether there is a greatest number of waiting tasks for each procedure."""
    check_program(program)
    return not any([ANY in bag for _, bag in covered_of(program).summits])


def piles(program):
    """The ascending tuple of the greatest sets of names of which any number of all can wait together."""
    check_program(program)
    found = sorted(set([wide_names(program, bag) for _, bag in covered_of(program).summits]))
    return tuple([
        names
        for names in found
        if names and not any([other != names and are_among(names, other) for other in found])
    ])


def can_pile(program, names):
    """Whether any number of tasks of each of some procedures can wait together."""
    check_program(program)
    check_names(program, names)
    return any([are_among(names, pile) for pile in piles(program)])


def pile_plan(program, names, many):
    """A plan at whose end at least so many tasks of each of some procedures wait, or None."""
    check_program(program)
    check_names(program, names)
    if not is_integer(many) or many < 0:
        raise InvalidNumber(many)
    bag = tuple([many if name in names else 0 for name in program.names])
    goals = [(mode, bag) for mode in nearest_modes(program, bag)]
    if not goals:
        return None
    _, start, row = row_to_one(program, goals)
    return (start, filled(program, table_of(program), row, bag))


def nearest_modes(program, bag):
    """The modes that are covered with a bag; a single one, if that is a start and no task has to be taken."""
    covered = covered_of(program)
    if fits(bag, program.begin):
        return program.starts[:1]
    return [mode for mode in range(program.modes) if covered.covers(mode, bag)]


def check_names(program, names):
    """Raise UnknownName unless the value is an ascending tuple of at least one name of a procedure."""
    if not isinstance(names, tuple) or not names or not all([isinstance(name, str) for name in names]):
        raise UnknownName(names)
    if not ascends(names):
        raise UnknownName(names)
    for name in names:
        if name not in program:
            raise UnknownName(name)


def wide_names(program, bag):
    """The ascending tuple of the names of the tasks of which a wide bag has any number."""
    return tuple(sorted([name for name, many in zip(program.names, bag) if many == ANY]))


def are_among(names, others):
    """Whether some names are all among others."""
    return all([name in others for name in names])
