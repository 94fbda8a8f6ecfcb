"""Bars and tops: what everything stays within."""

from postedbag.base.bags import changed, fits, summed
from postedbag.base.checks import check_bag, check_mode, check_program, is_standing
from postedbag.base.roofs import roof_of
from postedbag.base.words import ascends
from postedbag.errors import InvalidOperation, TooMany
from postedbag.know.tables import MOST_GAINS, table_of
from postedbag.plan.covered import covered_of


def is_bar(program, value):
    """Whether the value is a bar of the program."""
    check_program(program)
    if not are_standings(program, value) or not ascends(value):
        return False
    roofs = roofs_of(program, value)
    if not all([roofs[start].covers(program.begin) for start in program.starts]):
        return False
    return holds_all(program, value, roofs)


class Tops:
    """The tops of a program."""

    def __init__(self, program):
        check_program(program)
        self._program = program
        self._covered = covered_of(program)

    @property
    def program(self):
        """Its program."""
        return self._program

    @property
    def rows(self):
        """The ascending tuple of the tops."""
        return self._covered.summits

    @property
    def modes(self):
        """The ascending tuple of the modes to which runs come between tasks."""
        return modes_of(self._covered.summits)

    def covers(self, mode, bag):
        """Whether a mode and a bag are covered."""
        check_mode(self._program, mode)
        check_bag(self._program, bag)
        return self._covered.covers(mode, bag)

    def above(self, bar):
        """Whether each top is within a standing of a tuple."""
        if not are_standings(self._program, bar):
            raise InvalidOperation("a tuple of standings of the program is needed")
        return all([is_below(mode, bag, bar) for mode, bag in self._covered.summits])

    def __contains__(self, other):
        return is_standing(self._program, other) and other in self._covered.summits

    def __len__(self):
        return len(self._covered.summits)

    def __eq__(self, other):
        if not isinstance(other, Tops):
            return False
        return self._program == other._program

    def __str__(self):
        return f"{len(self._covered.summits)} tops in {len(modes_of(self._covered.summits))} modes"


def are_standings(program, value):
    """Whether the value is a tuple of standings of the program."""
    return isinstance(value, tuple) and all([is_standing(program, standing) for standing in value])


def modes_of(rows):
    """The ascending tuple of the modes of standings."""
    return tuple(sorted(set([mode for mode, _ in rows])))


def is_below(mode, bag, rows):
    """Whether a mode and a wide bag are within one of some standings."""
    return any([other == mode and fits(bag, wide) for other, wide in rows])


def roofs_of(program, rows):
    """For each mode of a program the roof of the standings with this mode."""
    return [roof_of([bag for other, bag in rows if other == mode]) for mode in range(program.modes)]


def holds_all(program, rows, roofs):
    """Whether each take from each of some standings leads below their roofs."""
    table = table_of(program)
    beyond = False
    for way in taken_ways(program, rows):
        try:
            table.gains(way)
        except TooMany:
            beyond = True
            continue
        at = program.names.index(way[0])
        for mode, bag in rows:
            if mode == way[2] and bag[at] != 0 and not leads_below(table, way, at, bag, roofs[way[3]]):
                return False
    if beyond:
        raise TooMany(MOST_GAINS)
    return True


def taken_ways(program, rows):
    """The ways of the tasks that can be taken from some of the standings."""
    return [
        (name, 0, mode, end)
        for at, name in enumerate(program.names)
        for mode in range(program.modes)
        if any([other == mode and bag[at] != 0 for other, bag in rows])
        for end in range(program.modes)
    ]


def leads_below(table, way, at, bag, roof):
    """Whether each take of a task, which has an index, by a way out of a bag leads below a roof."""
    rest = changed(bag, at, -1)
    return all([roof.covers(summed(rest, gain)) for gain in table.gains_over(way, bag)])
