"""Needed bags: the needs of a mode and a bag, as far as they can be worked out, and what leads to them."""

from postedbag.base.bags import ANY, fits
from postedbag.errors import TooMany
from postedbag.know.tables import table_of
from postedbag.plan.backs import Backs
from postedbag.plan.bounds import Bounds
from postedbag.plan.covered import covered_of
from postedbag.plan.search import Search

MOST_LEVELS = 1000
# From so many needs on it is tried to show that rows of too many takes are needed; more than the last are given up.
MANY_NEEDS = 1000
LAST_NEEDS = 60000
# So many needs are followed to show this.
MOST_FOLLOWED = 2
# The needs of so many modes and bags are kept with a program.
MOST_KEPT = 100
# So many steps of a search are looked at, and so many takes can its rows have, where there are too many tops.
MOST_LOOKS = 3000
LONGEST = 1000000


def needed_table(program, mode, bag):
    """The needs as a dict from all modes to ascending tuples, or None; and the limit that is passed otherwise."""
    kept = program.notes.setdefault("needs", {})
    if (mode, bag) not in kept:
        if len(kept) >= MOST_KEPT:
            kept.clear()
        kept[mode, bag] = worked_out(program, mode, bag)
    return kept[mode, bag]


def worked_out(program, mode, bag):
    """The needs, and a limit if they cannot be worked out."""
    backs = Backs(program, table_of(program), mode, bag, MOST_LEVELS)
    is_tried = False
    for _ in range(MOST_LEVELS + 1):
        backs.go_on()
        if backs.is_done():
            return backs.table(), None
        many = backs.size()
        if many > MANY_NEEDS and not is_tried:
            is_tried = True
            if is_far(program, mode, bag):
                return None, MOST_LEVELS
        if many > LAST_NEEDS:
            return None, LAST_NEEDS
    return None, MOST_LEVELS


def is_far(program, mode, bag):
    """Whether a bag is found from which a mode and a bag are covered, but only by rows of too many takes."""
    backs = Backs(program, table_of(program), mode, bag, MOST_LEVELS)
    for _ in range(MOST_LEVELS + 1):
        backs.go_on()
        backs.keep(MOST_FOLLOWED)
    takes = backs.takes()
    if backs.is_done() or not takes:
        return False
    bounds = Bounds(program, takes, (False,) * len(program), (mode, bag), max(bag) + MOST_LEVELS)
    found = [bounds.least(other, less)[0] for other, less in backs.latest()]
    return any([least is not None and least > MOST_LEVELS for least in found])


def leads_to(program, mode, bag, end):
    """Whether rows from a mode and a bag come to a mode with at least a bag."""
    if mode == end[0] and fits(end[1], bag):
        return True
    begun = program.with_starts((mode,)).with_begin(bag)
    try:
        return covered_of(begun).covers(*end)
    except TooMany:
        return is_searched(begun, mode, bag, end)


def is_searched(program, mode, bag, end):
    """Whether a row is found that leads to a mode and a bag."""
    table = table_of(program)
    modes = range(program.modes)
    ways = [
        ((name, 0, ahead, behind), at)
        for at, name in enumerate(program.names)
        for ahead in modes
        for behind in modes
        if table.gains((name, 0, ahead, behind))
    ]
    return Search(program, table, ways, [(mode, bag)], end, LONGEST).least_row(MOST_LOOKS) is not None


def is_closed(program, table, found):
    """Whether a table has a bag within what each take ahead of one of its bags needs."""
    for mode in found:
        for at, name in enumerate(program.names):
            for ahead in range(program.modes):
                for gain in table.gains((name, 0, ahead, mode)) if found[mode] else ():
                    if not all([has_within(found[ahead], needed_ahead(bag, gain, at)) for bag in found[mode]]):
                        return False
    return True


def needed_ahead(bag, gain, at):
    """The bag that a take of the task at an index needs, so that a bag waits behind it."""
    rest = [0 if entry == ANY else max([0, many - entry]) for many, entry in zip(bag, gain)]
    rest[at] += 1
    return tuple(rest)


def has_within(bags, bag):
    """Whether one of some bags is within a bag."""
    return any([fits(other, bag) for other in bags])
