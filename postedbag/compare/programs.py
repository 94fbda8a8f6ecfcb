"""Programs compared: which of them covers more."""

from postedbag.base.bags import ANY, fits, least
from postedbag.base.checks import check_program, is_bag_of, is_mode
from postedbag.base.roofs import weight
from postedbag.errors import InvalidOperation, TooMany
from postedbag.know.tables import table_of
from postedbag.plan.covered import covered_of
from postedbag.plan.rows import filled, row_to_one
from postedbag.plan.search import MOST_TAKES
from postedbag.plan.takes import end_behind
from postedbag.plan.tops import are_standings, is_bar, is_below

# From so many bags that only the first program covers rows are searched for.
MOST_GOALS = 200


def covers_no_more(one, other):
    """Whether everything that is covered in the first program is covered in the second one."""
    return not extra(one, other)


def covers_same(one, other):
    """Whether two programs cover the same."""
    check_pair(one, other)
    return covered_of(one).summits == covered_of(other).summits


def extra(one, other):
    """The ascending tuple of those tops of the first program that are within no top of the second one."""
    check_pair(one, other)
    first, second = covered_of(one), covered_of(other)
    return tuple([top for top in first.summits if not second.covers(*top)])


def more_paper(one, other):
    """A paper that shows that the first program covers more, or None."""
    tops = extra(one, other)
    if not tops:
        return None
    mode, bag, start, row = row_beyond(one, tops, covered_of(other).summits)
    return (mode, bag, start, filled(one, table_of(one), row, bag), covered_of(other).summits)


def row_beyond(one, tops, bars):
    """A mode and a bag within one of some tops and within no bar, and the start and the takes of a row to them.

    TooMany if such rows have too many takes.
    """
    left = MOST_GOALS
    for mode, wide in sorted(tops, key=lambda top: weight(top[1])):
        bags = sorted(least_beyond(wide, [low for other, low in bars if other == mode]), key=sum)[:left]
        left -= len(bags)
        try:
            at, start, row = row_to_one(one, [(mode, bag) for bag in bags])
        except TooMany:
            continue
        return mode, bags[at], start, row
    raise TooMany(MOST_TAKES)


def is_more_paper(one, other, value):
    """Whether the value is a paper that shows that the first program covers more."""
    check_pair(one, other)
    if not isinstance(value, tuple) or len(value) != 5:
        return False
    mode, bag, start, takes, standings = value
    if not is_mode(one, mode) or not is_bag_of(one, bag):
        return False
    end = end_behind(one, (start, takes))
    if end is None or end[0] != mode or not fits(bag, end[1]) or not are_standings(other, standings):
        return False
    return not is_below(mode, bag, standings) and is_bar(other, standings)


def least_beyond(wide, others):
    """The least bags within a wide bag that are within none of others, or some of them if they are many."""
    bags = [(0,) * len(wide)]
    for other in others:
        inner = [bag for bag in bags if fits(bag, other)]
        if inner:
            outer = [bag for bag in bags if not fits(bag, other)]
            raised = [one for bag in inner for one in raised_over(bag, other) if fits(one, wide)]
            # What is outer stays least, for no inner bag is within it.
            fresh = [bag for bag in least(tuple(raised)) if not any([fits(less, bag) for less in outer])]
            bags = sorted(outer + fresh)[:MOST_GOALS]
    return tuple(bags)


def raised_over(bag, other):
    """The list of the bags that have one entry more than a bag has, so that they are not within another one."""
    return [bag[:at] + (most + 1,) + bag[at + 1:] for at, most in enumerate(other) if most != ANY]


def check_pair(one, other):
    """Raise an error unless both are programs with equally many modes, and with the same names in the same order."""
    check_program(one)
    check_program(other)
    if one.modes != other.modes or one.names != other.names:
        raise InvalidOperation("programs with equally many modes and the same names are needed")
