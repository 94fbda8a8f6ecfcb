"""Roads: the gains of the paths to a place."""

from postedbag.base.notes import noted
from postedbag.errors import TooMany
from postedbag.know.grammar import Grammar
from postedbag.know.paths import path_rows
from postedbag.know.tables import MOST_GAINS, GainTable, Part, table_of

# A path can lead through others that have more gains than it can have itself.
MOST_THROUGH = 1000
# The tables of so many places are kept with a program.
MOST_KEPT = 200


class PathTable(GainTable):
    """The gains of the paths to a place, and of the ways that stand behind their rules."""

    def __init__(self, program, place, base):
        grammar = Grammar(program, path_rows(program, place), base.grammar)
        GainTable.__init__(self, program, grammar)
        self._base = base
        # The paths that have too many gains themselves; others can still lead through them.
        self._many = {}

    def path_gains(self, path):
        """The ascending tuple of the gains of a path; TooMany if there are too many."""
        found = () if path in self._many else self.gains(path)
        if path in self._many or len(found) > MOST_GAINS:
            raise TooMany(MOST_GAINS)
        return found

    def _limit_of(self, way, ways):
        return MOST_GAINS if way in ways else MOST_THROUGH

    def _give_up(self, way, ways):
        if way not in ways:
            super()._give_up(way, ways)
        self._many.update({own: True for own in ways})

    def _part_of(self, ways, most):
        """The part of some paths, or of some ways as the table of the ways has it."""
        if not self._base.grammar.is_good(ways[0]):
            return super()._part_of(ways, most)
        known, packing = self._base.part(ways[0]), self._base.packing
        part = Part(len(self._parts), ways, known.ends, 0, 0)
        part.most = known.most
        if part.most > self.packing.most:
            self._widen(part)
        part.codes = [self.packing.recoded(code, packing) for code in known.codes]
        part.reached = self.packing.recoded(known.reached, packing)
        part.pumped = self.packing.recoded(known.pumped, packing)
        part.alike = self._number(part.codes)
        return part


def roads_to(program, place):
    """The gains of the paths to a place, which are kept with the program."""
    kept = noted(program.lore, "roads", MOST_KEPT)
    if place not in kept:
        kept[place] = PathTable(program, place, table_of(program))
    return kept[place]
