"""Rounds of takes: rows on which a standing comes back within a later one, where rows are too many to follow all."""

from postedbag.base.ceilings import Ceiling
from postedbag.plan.walks import MOST_TAKES

# So many standings are looked at.
MOST_LOOKS = 6000


class RoundSearch:
    """Standings behind ever more takes, but for those that are less than others."""

    def __init__(self, ground, modes):
        self._ground = ground
        self._ceilings = [Ceiling(ground.packing) for _ in range(modes)]
        # For each standing: itself, the least weight of it and those ahead, the index of the one ahead, how many takes
        # are ahead, and the list of the indices of those right behind it.
        self._met = []
        self._index = {}
        self.round = None
        for first in ground.firsts:
            self._meet(first, None)
        at = 0
        while at < len(self._met) and self.round is None and len(self._met) < MOST_LOOKS:
            self._go_on(at)
            at += 1
        if self.round is None:
            self._close_ring()

    def _meet(self, standing, ahead):
        """Take in a standing behind another one; tell its index, or None if it is less than another one."""
        if standing in self._index:
            return self._index[standing]
        mode, code = standing
        weight = code % self._ground.packing.whole
        if self._ceilings[mode].covers(code, weight):
            return None
        floor = weight if ahead is None else min(weight, self._met[ahead][1])
        many = 0 if ahead is None else self._met[ahead][3] + 1
        self._ceilings[mode].put(code, weight, True)
        self._index[standing] = len(self._met)
        self._met.append((standing, floor, ahead, many, []))
        return self._index[standing]

    def _go_on(self, at):
        """Take in all standings behind one take from a standing."""
        standing, _, _, many, behind = self._met[at]
        if many >= MOST_TAKES or self._ground.turns.needed or not self._ceilings[standing[0]].holds(standing[1]):
            return
        for other in self._ground.behind(*standing):
            back = self._back(other, at)
            if back is not None:
                row = self._row_to(at)
                self.round = (row + [other], row.index(back))
                return
            index = self._meet(other, at)
            if index is not None:
                behind.append(index)

    def _back(self, standing, at):
        """The last standing of the row to one that comes back within another one, or None."""
        mode, code = standing
        guard = self._ground.packing.guard
        weight = code % self._ground.packing.whole
        while at is not None:
            (other, less), floor, before, _, _ = self._met[at]
            if floor > weight:
                return None
            if other == mode and ((code | guard) - less) & guard == guard:
                return (other, less)
            at = before
        return None

    def _row_to(self, at):
        """The list of the standings of the row to one."""
        row = []
        while at is not None:
            row.append(self._met[at][0])
            at = self._met[at][2]
        return row[::-1]

    def _close_ring(self):
        """Look for standings that lead to one another, on different rows."""
        left = {at: len(self._met[at][4]) for at in range(len(self._met))}
        ahead = {}
        for at in range(len(self._met)):
            for index in self._met[at][4]:
                ahead.setdefault(index, []).append(at)
        waiting = [at for at in left if left[at] == 0]
        while waiting:
            here = waiting.pop()
            del left[here]
            for at in ahead.get(here, []):
                left[at] -= 1
                if left[at] == 0:
                    waiting.append(at)
        if left:
            self._keep_ring(left)

    def _keep_ring(self, left):
        """Keep a row with standings that come back; from each one that is left others that are left can be come to."""
        at = min(left, key=lambda one: self._met[one][3])
        ring = []
        while at not in ring:
            ring.append(at)
            at = [index for index in self._met[at][4] if index in left][0]
        ring = ring[ring.index(at):]
        row = self._row_to(ring[0])
        if len(row) - 1 + len(ring) <= MOST_TAKES:
            self.round = (row + [self._met[index][0] for index in ring[1:] + ring[:1]], len(row) - 1)
