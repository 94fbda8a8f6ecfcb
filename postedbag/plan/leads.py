"""Leads: whether rows from a mode and a bag, any ones, come to a mode with at least a bag."""

from postedbag.base.bags import fits
from postedbag.errors import TooMany
from postedbag.know.tables import table_of
from postedbag.plan.covered import covered_of
from postedbag.plan.search import Search

# So many steps of a search are looked at where it must be known, or where it is only tried.
MOST_LOOKS = 3000
FEW_LOOKS = 20


def leads_to(program, mode, bag, end):
    """Whether rows from a mode and a bag come to a mode with at least a bag."""
    if mode == end[0] and fits(end[1], bag):
        return True
    if row_between(program, mode, bag, end, FEW_LOOKS) is not None:
        return True
    try:
        return covered_of(program.with_starts((mode,)).with_begin(bag)).covers(*end)
    except TooMany:
        return row_between(program, mode, bag, end, MOST_LOOKS) is not None


def is_led(program, mode, bag, end):
    """Whether it is seen soon that rows from a mode and a bag come to a mode with at least a bag."""
    if row_between(program, mode, bag, end, FEW_LOOKS) is not None:
        return True
    try:
        return covered_of(program.with_starts((mode,)).with_begin(bag)).covers(*end)
    except TooMany:
        return False


def row_between(program, mode, bag, end, looks):
    """The start and the takes of a row of few takes from a mode and a bag to an end, or None if none is found soon."""
    table = table_of(program)
    modes = range(program.modes)
    ways = [
        ((name, 0, ahead, behind), at)
        for at, name in enumerate(program.names)
        for ahead in modes
        for behind in modes
        if table.gains((name, 0, ahead, behind))
    ]
    # More takes than this are hardly ever needed, and never where a take of each kind posts as much as it needs.
    longest = 100 * (1 + sum(bag) + sum(end[1]))
    return Search(program, table, ways, [(mode, bag)], end, longest).least_row(looks)
