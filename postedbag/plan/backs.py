"""Backs: from what a mode and a bag are covered, by rows of ever more takes."""

from postedbag.base.bags import ANY
from postedbag.base.floors import Floor
from postedbag.base.packs import Packing

# What is taken in has at most so many tasks more of a procedure than the bag has in all.
SPARE = 9
# So many bags are kept at least before those are dropped that do not count any more.
FEW_BAGS = 600


class Backs:
    """The needs of a mode and a bag for rows of at most so many takes, one more each time."""

    def __init__(self, program, table, mode, bag, most):
        self._program = program
        self._table = table
        # Each take ahead needs one task more at most; what is taken in has hardly more than the bag.
        self._packing = Packing(len(program), sum(bag) + most + SPARE)
        self._floors = [Floor(self._packing) for _ in range(program.modes)]
        # By each mode in which a take can end: the mode in which it begins, the code of its gain, and its task.
        self._takes = {}
        # The needs that are none for rows of fewer takes.
        self._new = []
        # How many bags have been looked at.
        self.looks = 0
        # How many bags there can be before those are dropped that do not count any more.
        self._most_bags = [FEW_BAGS] * program.modes
        self._put(mode, self._packing.packed(bag))

    def is_done(self):
        """Whether rows of more takes need no less."""
        return not self._new

    def table(self):
        """A dict from all modes to the ascending tuples of their needs."""
        return {
            mode: tuple(sorted([tuple(self._packing.entries(code)) for code in floor.least()]))
            for mode, floor in enumerate(self._floors)
        }

    def latest(self):
        """The list of some pairs of a mode and a bag that are needs for rows of so many takes only."""
        return [(mode, tuple(self._packing.entries(code))) for mode, code in self._new]

    def takes(self):
        """The list of the takes that were asked for: a mode, the index of the task, the mode behind, and a gain."""
        return [
            (ahead, at, mode, gain)
            for mode in self._takes
            for at, name in enumerate(self._program.names)
            for ahead in range(self._program.modes)
            for gain in self._table.gains((name, 0, ahead, mode))
        ]

    def keep_ends(self):
        """Go on from the lightest and the heaviest one of the latest needs only."""
        self._new = self._new[:1] + self._new[1:][-1:]

    def take_in(self, mode, bag):
        """Take in a bag from which the mode and the bag are covered, unless that is known already."""
        code = self._packing.packed(bag)
        if not self._floors[mode].covers(code, code % self._packing.whole):
            self._put(mode, code)

    def go_on(self):
        """Let rows have one take more."""
        latest, self._new = self._new, []
        found = [{} for _ in self._floors]
        for mode, code in latest:
            self._add_ahead(mode, code, found)
        for mode in range(len(self._floors)):
            floor = self._floors[mode]
            weights = {code: code % self._packing.whole for code in found[mode] if code not in floor.codes}
            # No bag is within one that is less heavy.
            for code in sorted(weights, key=lambda one: weights[one]):
                if not floor.covers(code, weights[code]):
                    self._put(mode, code)
            self.looks += len(weights)
            self._thin_out(mode)

    def _add_ahead(self, mode, code, found):
        """Add what is needed ahead of one take that leads to a need, by its modes."""
        guard, top = self._packing.guard, self._packing.bits - 1
        for ahead, gain, task in self._takes_to(mode):
            # What the bag has more than the gain: where it has not, the highest bit of the entry is lost.
            rest = (code | guard) - gain
            more = rest & guard
            found[ahead][(rest & (more - (more >> top))) + task] = True

    def _thin_out(self, mode):
        """Drop the bags that do not count any more, if there are many."""
        if len(self._floors[mode].codes) > self._most_bags[mode]:
            codes = self._floors[mode].least()
            if 2 * len(codes) < len(self._floors[mode].codes):
                self._floors[mode] = Floor(self._packing)
                for code in codes:
                    self._floors[mode].put(code, code % self._packing.whole)
            self._most_bags[mode] = FEW_BAGS + 3 * len(codes)

    def _put(self, mode, code):
        """Take in a need, in which no other one is."""
        self._floors[mode].put(code, code % self._packing.whole)
        self._new.append((mode, code))

    def _takes_to(self, mode):
        """The list of the takes that end in a mode and that can make a difference."""
        if mode not in self._takes:
            self._takes[mode] = [
                (ahead, self._packed(gain), self._packing.one(at))
                for at, name in enumerate(self._program.names)
                for ahead in range(self._program.modes)
                for gain in self._table.gains((name, 0, ahead, mode))
                if ahead != mode or max(gain) > 0 or ANY in gain
            ]
        return self._takes[mode]

    def _packed(self, gain):
        """The code of a gain; more than any need has is as good as any number."""
        return self._packing.packed([ANY if entry > self._packing.most else entry for entry in gain])
