"""What is covered: the tops of a program, kept with it."""

from postedbag.base.lids import Lid
from postedbag.errors import TooMany
from postedbag.know.tables import table_of
from postedbag.plan.climb import MOST_TOPS, Climb

# The entries of gains are taken to be at most this, until there is a greater one.
FIRST_MOST = 255


class Covered:
    """The tops of a program, for those who ask for modes and bags."""

    def __init__(self, climb):
        self.summits = climb.tops()
        self._packing = climb.packing
        self._lids = [Lid(climb.packing, list(ceiling.codes)) for ceiling in climb.ceilings]

    def covers(self, mode, bag):
        """Whether a mode and a bag are covered."""
        packing = self._packing
        # Each finite entry of a top is less than the most.
        return self._lids[mode].covers(packing.packed([min(entry, packing.most) for entry in bag]))


def covered_of(program):
    """What is covered; TooMany if there are too many tops, or gains of a task that can be taken."""
    if "covered" not in program.notes:
        program.notes["covered"] = climbed(program)
    if program.notes["covered"] is None:
        raise TooMany(MOST_TOPS)
    return program.notes["covered"]


def climbed(program):
    """What is covered, or None if that is too much."""
    table = table_of(program)
    most = FIRST_MOST
    try:
        climb = Climb(program, table, most)
        while climb.shortage():
            climb = Climb(program, table, climb.shortage())
    except TooMany:
        return None
    return Covered(climb)
