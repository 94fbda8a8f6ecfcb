"""Needs: from what a mode and a bag are covered."""

from postedbag.base.bags import fits
from postedbag.base.checks import check_question, is_bag_of, is_mode
from postedbag.base.notes import noted
from postedbag.base.words import ascends, is_index
from postedbag.errors import InvalidNumber, TooMany
from postedbag.know.tables import table_of
from postedbag.plan.backs import Backs
from postedbag.plan.leads import leads_to
from postedbag.plan.needed import MOST_LEVELS, has_within, is_closed, needed_table

MOST_TAKES = 60
MOST_NEEDS = 400
# The needs for rows of so many takes are kept with a program for so many questions.
MOST_KEPT = 100


def needs(program, mode, bag):
    """A dict from all modes to the ascending tuples of the needs of a mode and a bag."""
    check_question(program, mode, bag)
    table, limit = needed_table(program, mode, bag)
    if limit == MOST_LEVELS:
        raise TooMany(MOST_LEVELS)
    if table is None or sum([len(bags) for bags in table.values()]) > MOST_NEEDS:
        raise TooMany(MOST_NEEDS)
    return {other: table[other] for other in table}


def needs_in(program, mode, bag, takes):
    """The needs for rows of at most so many takes, as a dict like that of needs."""
    check_question(program, mode, bag)
    if not is_index(takes, MOST_TAKES + 1):
        raise InvalidNumber(takes)
    kept = noted(program.notes, "needs in", MOST_KEPT)
    if (mode, bag, takes) not in kept:
        kept[mode, bag, takes] = table_in(program, mode, bag, takes)
    table = kept[mode, bag, takes]
    return {other: table[other] for other in table}


def table_in(program, mode, bag, takes):
    """The needs for rows of at most so many takes."""
    backs = Backs(program, table_of(program), mode, bag, MOST_TAKES)
    for _ in range(takes):
        if backs.is_done():
            break
        backs.go_on()
    return backs.table()


def is_needs(program, mode, bag, value):
    """Whether the value is a dict with the needs of a mode and a bag."""
    check_question(program, mode, bag)
    if not are_tables_by_form(program, value) or not has_within(value[mode], bag):
        return False
    try:
        table, _ = needed_table(program, mode, bag)
    except TooMany:
        if not are_least(value):
            return False
        raise
    if table is not None:
        return value == table
    if not are_least(value) or not is_closed(program, table_of(program), value):
        return False
    return all([leads_to(program, other, less, (mode, bag)) for other in value for less in value[other]])


def are_tables_by_form(program, value):
    """Whether the value is a dict from all modes to tuples of bags."""
    if not isinstance(value, dict) or len(value) != program.modes:
        return False
    if not all([is_mode(program, mode) for mode in value]):
        return False
    return all([isinstance(bags, tuple) and all([is_bag_of(program, bag) for bag in bags]) for bags in value.values()])


def are_least(table):
    """Whether the bags of each mode ascend, and none of them is within another one."""
    if not all([ascends(bags) for bags in table.values()]):
        return False
    # A bag that is within another one of ascending ones stands ahead of it.
    return not any([
        fits(bag, other)
        for bags in table.values()
        for at, bag in enumerate(bags)
        for other in bags[at + 1:]
    ])
