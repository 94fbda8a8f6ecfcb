"""Backs: from what a mode and a bag are covered, by rows of ever more takes."""

from postedbag.base.bags import ANY
from postedbag.base.floors import Floor
from postedbag.base.packs import Packing


class Backs:
    """The needs of a mode and a bag for rows of at most so many takes, one more each time."""

    def __init__(self, program, table, mode, bag, most):
        self._program = program
        self._table = table
        # Each take ahead needs one task more at most.
        self._packing = Packing(len(program), max(bag) + most + 1)
        self._floors = [Floor(self._packing) for _ in range(program.modes)]
        # By each mode in which a take can end: the mode in which it begins, the code of its gain, and its task.
        self._takes = {}
        # The needs that are none for rows of fewer takes.
        self._new = []
        self._put(mode, self._packing.packed(bag))

    def size(self):
        """How many needs there are by now, of all modes together."""
        return sum([len(floor.codes) for floor in self._floors])

    def is_done(self):
        """Whether rows of more takes need no less."""
        return not self._new

    def table(self):
        """A dict from all modes to the ascending tuples of their needs."""
        return {
            mode: tuple(sorted([self._packing.unpacked(code) for code in floor.codes]))
            for mode, floor in enumerate(self._floors)
        }

    def latest(self):
        """The list of some pairs of a mode and a bag that are needs for rows of so many takes only."""
        return [(mode, self._packing.unpacked(code)) for mode, code in self._new]

    def takes(self):
        """The list of the takes that were asked for: a mode, the index of the task, the mode behind, and a gain."""
        return [
            (ahead, at, mode, gain)
            for mode in self._takes
            for at, name in enumerate(self._program.names)
            for ahead in range(self._program.modes)
            for gain in self._table.gains((name, 0, ahead, mode))
        ]

    def keep(self, many):
        """Go on from so many of the latest needs only."""
        apart = max(1, len(self._new) // many)
        self._new = self._new[::apart][:many]

    def go_on(self):
        """Let rows have one take more."""
        guard, top = self._packing.guard, self._packing.bits - 1
        latest, self._new = self._new, []
        for mode, code in latest:
            for ahead, gain, task in self._takes_to(mode):
                # What the bag has more than the gain: where it has not, the highest bit of the entry is lost.
                rest = (code | guard) - gain
                more = rest & guard
                before = (rest & (more - (more >> top))) + task
                if not self._floors[ahead].covers(before, before % self._packing.whole):
                    self._put(ahead, before)
        self._new = [(mode, code) for mode, code in self._new if self._floors[mode].holds(code)]

    def _put(self, mode, code):
        """Take in a need, in which no other one is."""
        self._floors[mode].put(code, code % self._packing.whole)
        self._new.append((mode, code))

    def _takes_to(self, mode):
        """The list of the takes that end in a mode and that can make a difference."""
        if mode not in self._takes:
            self._takes[mode] = [
                (ahead, self._packed(gain), self._packing.one(at))
                for at, name in enumerate(self._program.names)
                for ahead in range(self._program.modes)
                for gain in self._table.gains((name, 0, ahead, mode))
                if ahead != mode or max(gain) > 0 or ANY in gain
            ]
        return self._takes[mode]

    def _packed(self, gain):
        """The code of a gain; more than any need has is as good as any number."""
        return self._packing.packed([ANY if entry > self._packing.most else entry for entry in gain])
