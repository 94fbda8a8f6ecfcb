"""Climbs: all that rows of tasks can come to, from the starts on."""

from heapq import heappop, heappush

from postedbag.base.bags import ANY
from postedbag.base.ceilings import Ceiling
from postedbag.base.floors import Floor
from postedbag.base.packs import Packing
from postedbag.errors import TooMany
from postedbag.plan.proofs import are_flat, are_shown
from postedbag.plan.search import raised_by_rounds
from postedbag.plan.steps import Steps

MOST_TOPS = 400
# From so many standings it is searched for rounds that lead to more.
MOST_RAISED = 8
# So many standings ahead are looked at for what is held already.
MOST_AHEAD = 16
# Behind so many steps, and then behind twice as many each time, it is looked whether there are too many tops. If there
# is still no end behind the last number of steps, the climb is taken for one without end.
FIRST_LOOK = 500
LAST_LOOK = 8000
# A step is a number with its index in the lowest bits: the queues are in the order of these numbers.
INDEX_BITS = 40
# No finite entry grows by rounds, so it is less than this many times what the begin and the gains have.
GROWTH_BITS = 15


class Climb:
    """The greatest standings that rows of tasks come to, with any number of rounds."""

    def __init__(self, program, table, most):
        self._program = program
        self._table = table
        self.packing = Packing(len(program), max([most, *program.begin]) << GROWTH_BITS)
        self._moves = Steps(program, table, self.packing, most)
        self.ceilings = [Ceiling(self.packing) for _ in range(program.modes)]
        # The least bags of all that were come to: where none of them is within a bag, nothing is less than this one.
        self._floors = [Floor(self.packing) for _ in range(program.modes)]
        # For each standing that was come to its mode, its code, the least weight of it and of those ahead, and the
        # index of the one ahead.
        self._steps = []
        self._done = {}
        # The standings from which it is still to go on, in two orders; ranks of modes come first in both.
        ranks = mode_ranks(program, table)
        self._ranks = [rank - min(ranks) for rank in ranks]
        self._oldest = []
        self._widest = []
        self._look = MOST_TOPS
        for start in program.starts:
            self._come(start, self.packing.packed(program.begin), None)
        self._go_all()
        if self._size() > MOST_TOPS:
            raise TooMany(MOST_TOPS)

    def shortage(self):
        """What the gains must be allowed to have so that the climb is right, if it is more than they are; else 0."""
        return self._moves.needed

    def tops(self):
        """The ascending tuple of the tops."""
        return tuple(sorted(self._held()))

    def _held(self):
        """The list of the standings that are held."""
        rows = [(mode, code) for mode, ceiling in enumerate(self.ceilings) for code in ceiling.codes]
        return [(mode, self.packing.unpacked(code)) for mode, code in rows]

    def _size(self):
        """How many standings are held."""
        return sum([len(ceiling.codes) for ceiling in self.ceilings])

    def _go_all(self):
        """Go on from all standings, in turn from the oldest one and from one with as much ANY as possible."""
        last = 0
        # The oldest ones alone would be slow where rounds come late, the others alone where a short row is hidden.
        while self._oldest and self._moves.needed == 0:
            step = heappop(self._oldest)
            rank = step >> INDEX_BITS
            if rank > last:
                # No task leads back to a mode of a lesser rank: what is held there are tops.
                tops = [len(held.codes) for mode, held in enumerate(self.ceilings) if self._ranks[mode] < rank]
                if sum(tops) > MOST_TOPS:
                    raise TooMany(MOST_TOPS)
                last = rank
            self._go_on(step & ((1 << INDEX_BITS) - 1))
            if self._widest:
                self._go_on(heappop(self._widest) & ((1 << INDEX_BITS) - 1))

    def _go_on(self, at):
        """Come to all standings behind one take from a standing, once, unless it is within another one by now."""
        if at in self._done:
            return
        self._done[at] = True
        mode, code, _, _ = self._steps[at]
        held = self.ceilings[mode].codes
        normal = self.packing.normal
        changes = self._moves.changes(mode, code)
        for end, change in changes:
            if code not in held or self._moves.needed:
                return
            self._come(end, normal(code + change), at)

    def _come(self, mode, code, ahead):
        """Come to a standing behind another one, with ANY for what rounds make more and more of."""
        ceiling = self.ceilings[mode]
        weight = code % self.packing.whole
        is_covered = ceiling.covers(code, weight)
        floor = weight if ahead is None else min(weight, self._steps[ahead][2])
        is_above = self._floors[mode].covers(code, weight)
        # What is held already, but was come to otherwise, can be more than a standing not far ahead.
        if is_above and floor < weight:
            lifted = self._lifted(mode, code, ahead, MOST_AHEAD if is_covered else len(self._steps))
            if lifted != code:
                code, weight = lifted, lifted % self.packing.whole
                is_covered = ceiling.covers(code, weight)
        if is_covered:
            return
        at, rank = len(self._steps), self._ranks[mode]
        heappush(self._oldest, (rank << INDEX_BITS) + at)
        # The number of entries with ANY is told by the weight.
        widest = ((rank + 1) << self.packing.bits) - (weight >> self.packing.shift)
        heappush(self._widest, (widest << INDEX_BITS) + at)
        self._steps.append((mode, code, floor, ahead))
        ceiling.put(code, weight, is_above)
        if not is_above:
            self._floors[mode].put(code, weight)
        if at >= self._look and self._size() > MOST_TOPS and self._is_endless():
            raise TooMany(MOST_TOPS)

    def _is_endless(self):
        """Whether too many tops are shown, or the climb is given up."""
        many = len(self._steps)
        is_first = self._look == MOST_TOPS
        self._look = FIRST_LOOK if many < FIRST_LOOK else 2 * many
        if is_first and are_flat(self._program, self._table, self._held(), MOST_TOPS):
            return True
        if many < FIRST_LOOK:
            return False
        if are_shown(self._program, self._table, self._held(), MOST_TOPS):
            return True
        self._raise_held()
        # Where more is come to by rounds that were not met before, the climb can end soon, though it is long.
        return many >= LAST_LOOK and (len(self._steps) == many or many >= 2 * LAST_LOOK)

    def _raise_held(self):
        """Come to more behind some of the standings that are held, where rounds that are searched for lead to it."""
        held = [at for at, step in enumerate(self._steps) if self.ceilings[step[0]].holds(step[1])]
        for index in range(MOST_RAISED):
            at = held[(2 * index + 1) * len(held) // (2 * MOST_RAISED)]
            mode, code = self._steps[at][:2]
            bag = raised_by_rounds(self._program, self._table, mode, self.packing.unpacked(code))
            self._come(mode, self.packing.packed(bag), at)

    def _lifted(self, mode, code, ahead, most):
        """The code with ANY for each entry that is more than in a standing within it of so many ones ahead at most."""
        guard = self.packing.guard
        weight = code % self.packing.whole
        at, left = ahead, most
        while at is not None and left:
            other, less, floor, before = self._steps[at]
            # Neither this one nor any one ahead of it is lighter.
            if floor >= weight:
                break
            at, left = before, left - 1
            if other == mode and ((code | guard) - less) & guard == guard:
                raised = self.packing.raised(less, code)
                if raised != code:
                    # With more in the bag, standings that were passed already can be within it.
                    code, weight = raised, raised % self.packing.whole
                    at, left = ahead, most
        return code


def mode_ranks(program, table):
    """For each mode a number: less than that of each mode to which tasks lead, but from which none lead back."""
    modes = range(program.modes)
    ways = [(name, 0, mode, end) for name in program.names for mode in modes for end in modes]
    changes = [(way[2], way[3]) for way in ways if table.grammar.is_good(way)]
    return [-len(modes_from(mode, changes)) for mode in modes]


def modes_from(mode, changes):
    """A dict with the modes that a mode leads to by some pairs of modes, and itself."""
    met = {mode: True}
    waiting = [mode]
    while waiting:
        here = waiting.pop()
        for old, new in changes:
            if old == here and new not in met:
                met[new] = True
                waiting.append(new)
    return met
