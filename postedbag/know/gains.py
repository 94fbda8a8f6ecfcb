"""Gains: what the uses of ways can post."""

from postedbag.base.bags import ANY, fits
from postedbag.base.checks import check_bag, check_mode, check_program
from postedbag.errors import UnknownName
from postedbag.know.tables import table_of
from postedbag.know.ways import check_way


def gains(program, way):
    """The ascending tuple of the gains of a way."""
    check_way(program, way)
    return table_of(program).gains(way)


def is_gained(program, way, bag):
    """Whether some uses of a way post at least a bag."""
    check_way(program, way)
    check_bag(program, bag)
    return any([fits(bag, gain) for gain in table_of(program).gains(way)])


def posted_any(program, way):
    """The tuple of the names of the tasks of which any number can be posted, in the order of the procedures."""
    found = gains(program, way)
    return tuple([name for at, name in enumerate(program.names) if ANY in [gain[at] for gain in found]])


def ends_of(program, name, mode):
    """A dict from the modes in which a task can end that is taken in a mode to the gains of its ways."""
    check_program(program)
    if name not in program:
        raise UnknownName(name)
    check_mode(program, mode)
    table = table_of(program)
    ways = [(name, 0, mode, end) for end in range(program.modes)]
    return {way[3]: table.gains(way) for way in ways if table.grammar.is_good(way)}
