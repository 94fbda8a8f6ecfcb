"""Bars: whether all that begins within some standings stays within them."""

from postedbag.base.lids import Lid
from postedbag.base.packs import Packing
from postedbag.errors import TooMany
from postedbag.know.tables import MOST_GAINS, table_of


def holds_all(program, rows):
    """Whether the starts and all takes from some standings lead to what is within one of them.

    TooMany, if some way has too many gains, comes behind all that is seen by the others.
    """
    table = table_of(program)
    found = {}
    beyond = False
    for way in taken_ways(program, rows):
        try:
            found[way] = table.gains(way)
        except TooMany:
            beyond = True
    packing = Packing(len(program), 2 * most_entry(program, rows, found))
    codes = [[packing.packed(bag) for other, bag in rows if other == mode] for mode in range(program.modes)]
    lids = [Lid(packing, some) for some in codes]
    begin = packing.packed(program.begin)
    if not all([lids[start].covers(begin) for start in program.starts]):
        return False
    for way in found:
        at = program.names.index(way[0])
        if not leads_below(table, packing, way, at, codes[way[2]], lids[way[3]]):
            return False
    if beyond:
        raise TooMany(MOST_GAINS)
    return True


def most_entry(program, rows, found):
    """The greatest entry of some standings, of the gains that were found, and of the begin."""
    bags = [bag for _, bag in rows] + [gain for gains in found.values() for gain in gains]
    return max([0, *[max(bag) for bag in bags], *program.begin])


def taken_ways(program, rows):
    """The ways of the tasks that can be taken from some of the standings."""
    return [
        (name, 0, mode, end)
        for at, name in enumerate(program.names)
        for mode in range(program.modes)
        if any([other == mode and bag[at] != 0 for other, bag in rows])
        for end in range(program.modes)
    ]


def leads_below(table, packing, way, at, codes, lid):
    """Whether each take of a task, which has an index, by a way out of some bags leads below a lid."""
    field = packing.full(packing.endless(at))
    known = {}
    for code in codes:
        if code & field:
            wide = code & packing.wide
            if wide not in known:
                known[wide] = changes_by(table, packing, way, at, wide)
            if not all([lid.covers(packing.normal(code + change)) for change in known[wide]]):
                return False
    return True


def changes_by(table, packing, way, at, wide):
    """The list of what is added to the code of a bag by a take of a task, where any number of some tasks waits."""
    taken = 0 if wide & packing.endless(at) else packing.one(at)
    keep = packing.every ^ packing.full(wide)
    return [(packing.packed(gain) & keep) - taken for gain in table.gains_over(way, packing.unpacked(wide))]
