"""Bulks: takes that are counted, put in an order, many at a time."""

from postedbag.base.bags import ANY, fits

# So many bulks are made at most.
MOST_BULKS = 2500


def in_bulks(takes, counts, mode, bag, end):
    """A list of pairs of the index of a take and how often it is made, or None if no such order is found.

    The takes are counted, and lead from a mode and a wide bag to at least the end, a mode and a bag, too, unless the
    end is None.
    """
    left = {index: counts[index] for index in counts}
    bag = list(bag)
    row = []
    while left:
        index = chosen(takes, left, mode, bag)
        if index is None or len(row) == MOST_BULKS:
            return None
        many = at_once(takes[index], left[index], bag)
        left[index] -= many
        if left[index] == 0:
            del left[index]
        row.append((index, many))
        mode = takes[index][2]
        bag = behind_bulk(takes[index], many, bag)
    return row if end is None or (mode == end[0] and fits(end[1], bag)) else None


def chosen(takes, left, mode, bag):
    """The index of one of the takes that are left, which can be made; None if none can be."""
    there = [index for index in left if takes[index][0] == mode and bag[takes[index][1]] != 0]
    return max(there, key=lambda index: promise(takes[index]), default=None)


def promise(take):
    """First come takes that keep the mode, and of these such as need nothing but what they post themselves."""
    mode, task, end, gain = take
    return (mode == end, gain[task] != 0, gain.count(ANY), sum(gain))


def at_once(take, many, bag):
    """How often a take can be made at once, so many times at most."""
    mode, task, end, gain = take
    if mode != end:
        return 1
    return many if gain[task] != 0 or bag[task] == ANY else min(many, bag[task])


def behind_bulk(take, many, bag):
    """The list of the entries of a wide bag behind a take that is made so many times."""
    _, task, _, gain = take
    behind = [ANY if ANY in pair else pair[0] + many * pair[1] for pair in zip(bag, gain)]
    if behind[task] != ANY:
        behind[task] -= many
    return behind
