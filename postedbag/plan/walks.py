"""Walks: all standings that rows of tasks come to, and how many takes can be made from each of them."""

from postedbag.base.packs import Packing
from postedbag.plan.steps import Steps

# A row that has more takes than these is not followed.
MOST_TAKES = 400
# On a row no finite entry becomes more than so many times what the begin and the gains have.
GROWTH_BITS = 10


class Ground:
    """The standings of a program as codes, and the steps between them."""

    def __init__(self, program, table, most):
        self.packing = Packing(len(program), max([most, *program.begin]) << GROWTH_BITS)
        self.turns = Steps(program, table, self.packing, most)
        self.firsts = [(start, self.packing.packed(program.begin)) for start in program.starts]

    def behind(self, mode, code):
        """The list of the standings behind one take, as pairs of a mode and a code."""
        normal = self.packing.normal
        return [(end, normal(code + change)) for end, change in self.turns.changes(mode, code)]

    def take_between(self, one, other):
        """A take that leads from a standing to another one: its task, the mode at its end, and its gain."""
        return self.turns.takes(*one)[self.behind(*one).index(other)]

    def standing(self, mode, code):
        """The standing with a mode and a code."""
        return (mode, self.packing.unpacked(code))


class Walk:
    """All rows, each followed to its end, until one shows that rows are long or that one has too many takes."""

    def __init__(self, ground, budget):
        self._ground = ground
        self._budget = budget
        # By each standing the greatest number of takes from there.
        self.lengths = {}
        # The standings of a row of which one comes back within the last one, and the index of this one; or None.
        self.round = None
        # Whether some row has too many takes, and whether there were too many standings to follow all.
        self.is_over = False
        self.is_cut = False
        # The row that is followed: standings with their least weight so far, what is behind, and the length found.
        self._trail = []
        self._place = {}
        for first in ground.firsts:
            if first not in self.lengths and self.is_whole():
                self._enter(first)
                self._follow()

    def is_whole(self):
        """Whether all rows have been followed, and none shows that rows are long, or has too many takes."""
        if self.round is not None or self.is_over or self.is_cut:
            return False
        return self._ground.turns.needed == 0

    def _enter(self, standing):
        """Put one more standing to the row."""
        weight = standing[1] % self._ground.packing.whole
        floor = min(weight, self._trail[-1][1]) if self._trail else weight
        self._place[standing] = len(self._trail)
        # The takes that post most come first, for they lead to rounds most likely.
        left = sorted(self._ground.behind(*standing), key=lambda other: other[1] % self._ground.packing.whole)
        self._trail.append([standing, floor, left, 0])

    def _follow(self):
        """Follow the row in all its forms, until nothing is left of it."""
        while self._trail and self.is_whole():
            top = self._trail[-1]
            if not top[2]:
                self._leave()
                continue
            other = top[2].pop()
            if other in self.lengths:
                self._count(self.lengths[other] + 1)
            elif len(self._trail) > MOST_TAKES:
                self.is_over = True
            elif other in self._place or self._is_back(other):
                self._close(other)
            else:
                self._enter(other)
                self.is_cut = len(self.lengths) + len(self._trail) > self._budget

    def _leave(self):
        """Take the last standing from the row: all that is behind it is known."""
        standing, _, _, length = self._trail.pop()
        del self._place[standing]
        self.lengths[standing] = length
        if self._trail:
            self._count(length + 1)

    def _count(self, length):
        """Keep how many takes there are from the last standing of the row, if they are more than what was known."""
        self._trail[-1][3] = max(self._trail[-1][3], length)
        self.is_over = self.is_over or len(self._trail) - 1 + length > MOST_TAKES

    def _is_back(self, standing):
        """Whether a standing of the row comes back within another one that is more."""
        mode, code = standing
        guard = self._ground.packing.guard
        weight = code % self._ground.packing.whole
        at = len(self._trail) - 1
        while at >= 0:
            (other, less), floor, _, _ = self._trail[at]
            # Neither this one nor any one ahead of it is lighter.
            if floor >= weight:
                return False
            if other == mode and ((code | guard) - less) & guard == guard:
                return True
            at -= 1
        return False

    def _close(self, standing):
        """Keep the row with one more standing, within which one of its own comes back."""
        guard = self._ground.packing.guard
        mode, code = standing
        row = [other for other, _, _, _ in self._trail]
        back = [
            at
            for at, (other, less) in enumerate(row)
            if other == mode and ((code | guard) - less) & guard == guard
        ]
        self.round = (row + [standing], back[-1])
