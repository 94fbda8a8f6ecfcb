"""Needed bags: the needs of a mode and a bag, as far as they can be worked out, and what leads to them."""

from postedbag.base.bags import ANY, fits
from postedbag.base.notes import noted
from postedbag.know.tables import table_of
from postedbag.plan.backs import Backs
from postedbag.plan.bounds import Bounds
from postedbag.plan.leads import is_led
from postedbag.plan.possible import reduced

MOST_LEVELS = 1000
# When so many bags have been looked at it is tried to do with fewer; more than the last are not looked at.
FIRST_LOOKS = 8000
LAST_LOOKS = 100000
# From bags with less than so many tasks more or less this is tried.
FEW_TASKS = 3
# So many of these are followed at most.
MOST_TRIES = 30
# The needs of so many modes and bags are kept with a program.
MOST_KEPT = 100


def needed_table(program, mode, bag):
    """The needs as a dict from all modes to ascending tuples, or None; and the limit that is passed otherwise."""
    kept = noted(program.notes, "needs", MOST_KEPT)
    if (mode, bag) not in kept:
        kept[mode, bag] = worked_out(program, mode, bag)
    return kept[mode, bag]


def worked_out(program, mode, bag):
    """The needs, and a limit if they cannot be worked out."""
    backs = Backs(program, table_of(program), mode, bag, MOST_LEVELS)
    for _ in range(MOST_LEVELS + 1):
        backs.go_on()
        if backs.is_done():
            return backs.table(), None
        if backs.looks > FIRST_LOOKS:
            return worked_out_otherwise(program, mode, bag)
    return None, MOST_LEVELS


def worked_out_otherwise(program, mode, bag):
    """The needs, and a limit if they cannot be worked out, where they are many for rows of some numbers of takes."""
    takes = reduced(all_takes(program, mode, bag))
    bounds = Bounds(program, takes, (False,) * len(program), (mode, bag), max(bag) + MOST_LEVELS)
    if any([is_beyond(bounds, other, less) for other, less in far_bags(program, mode, bag)]):
        return None, MOST_LEVELS
    seeds = []
    tries = 0
    for other, less in bags_near(program, bag):
        if tries < MOST_TRIES and not any([other == own and fits(few, less) for own, few in [(mode, bag), *seeds]]):
            least = bounds.least(other, less)[0]
            tries += int(least is not None)
            if least is not None and is_led(program, other, less, (mode, bag)):
                if least > MOST_LEVELS:
                    return None, MOST_LEVELS
                seeds.append((other, less))
    return closed_from(program, mode, bag, seeds, bounds)


def closed_from(program, mode, bag, seeds, bounds):
    """The needs, from the bag itself and from some bags that lead to it; and a limit if they cannot be worked out."""
    backs = Backs(program, table_of(program), mode, bag, MOST_LEVELS)
    for other, less in seeds:
        backs.take_in(other, less)
    for _ in range(MOST_LEVELS + 1):
        backs.go_on()
        if backs.is_done():
            break
        if backs.looks > LAST_LOOKS:
            return None, LAST_LOOKS
    if not backs.is_done():
        return None, MOST_LEVELS
    table = backs.table()
    # The bags that were put in led to it: it is not known by how many takes.
    some = [(other, less) for other in table for less in table[other][:MOST_TRIES] if seeds]
    if any([is_beyond(bounds, other, less) for other, less in some]):
        return None, MOST_LEVELS
    return table, None


def all_takes(program, mode, bag):
    """The list of the takes that rows to a mode and a bag can have: mode, index of the task, mode behind, gain."""
    backs = Backs(program, table_of(program), mode, bag, MOST_LEVELS)
    for _ in range(program.modes):
        backs.go_on()
        backs.keep_ends()
    return backs.takes()


def far_bags(program, mode, bag):
    """The list of some bags from which a mode and a bag are covered by more takes than rows may have."""
    backs = Backs(program, table_of(program), mode, bag, MOST_LEVELS)
    for _ in range(MOST_LEVELS + 1):
        backs.go_on()
        backs.keep_ends()
    return backs.latest()


def is_beyond(bounds, mode, bag):
    """Whether all rows from a mode and a bag have too many takes, if there are any."""
    least = bounds.least(mode, bag)[0]
    return least is not None and least > MOST_LEVELS


def bags_near(program, bag):
    """The list of the pairs of a mode and a bag with few tasks, or about as many as a bag has, of each procedure."""
    few = FEW_TASKS if len(bag) <= FEW_TASKS else 1
    found = [()]
    for many in bag:
        entries = sorted(set(list(range(few)) + list(range(many, many + few))))
        found = [less + (entry,) for less in found for entry in entries]
    for at in range(len(bag)):
        found.append(tuple([sum(bag) + few if index == at else 0 for index in range(len(bag))]))
    return [(mode, less) for less in sorted(found, key=sum) for mode in range(program.modes)]


def is_closed(program, table, found):
    """Whether a table has a bag within what each take ahead of one of its bags needs."""
    for mode in [other for other in found if found[other]]:
        for at, name in enumerate(program.names):
            for ahead in range(program.modes):
                for gain in table.gains((name, 0, ahead, mode)):
                    if not all([has_within(found[ahead], needed_ahead(bag, gain, at)) for bag in found[mode]]):
                        return False
    return True


def needed_ahead(bag, gain, at):
    """The bag that a take of the task at an index needs, so that a bag waits behind it."""
    rest = [0 if entry == ANY else max([0, many - entry]) for many, entry in zip(bag, gain)]
    rest[at] += 1
    return tuple(rest)


def has_within(bags, bag):
    """Whether one of some bags is within a bag."""
    return any([fits(other, bag) for other in bags])
