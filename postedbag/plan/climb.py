"""Climbs: all that rows of tasks can come to, from the starts on."""

from heapq import heappop, heappush

from postedbag.base.bags import ANY, changed, summed
from postedbag.base.roofs import Roof
from postedbag.errors import TooMany
from postedbag.plan.proofs import are_shown
from postedbag.plan.search import raised_by_rounds

MOST_TOPS = 400
# From so many standings it is searched for rounds that lead to more.
MOST_RAISED = 8
# So many standings ahead are looked at for what is held already.
MOST_AHEAD = 16
# Behind so many steps, and then behind twice as many each time, it is looked whether there are too many tops. If there
# is still no end behind the last number of steps, the climb is taken for one without end.
FIRST_LOOK = 500
LAST_LOOK = 8000


class Climb:
    """The greatest standings that rows of tasks come to, with any number of rounds."""

    def __init__(self, program, table):
        self._program = program
        self._table = table
        self.roofs = [Roof() for _ in range(program.modes)]
        # For each standing that was come to its mode, its bag, its index in the roof, and the index of the one ahead.
        self._steps = []
        self._done = {}
        # The standings from which it is still to go on, in two orders; ranks of modes come first in both.
        self._ranks = mode_ranks(program, table)
        self._oldest = []
        self._widest = []
        self._look = FIRST_LOOK
        for start in program.starts:
            self._come(start, program.begin, None)
        self._go_all()
        if self._size() > MOST_TOPS:
            raise TooMany(MOST_TOPS)

    def tops(self):
        """The ascending tuple of the tops."""
        return tuple(sorted(self._held()))

    def _held(self):
        """The list of the standings that are held."""
        return [(mode, bag) for mode, roof in enumerate(self.roofs) for bag in roof.held()]

    def _size(self):
        """How many standings are held."""
        return sum([roof.size() for roof in self.roofs])

    def _go_all(self):
        """Go on from all standings, in turn from the oldest one and from one with as much ANY as possible."""
        # The oldest ones alone would be slow where rounds come late, the others alone where a short row is hidden.
        while self._oldest:
            rank, at = heappop(self._oldest)
            # No task leads back to a mode of a lesser rank: what is held there are tops.
            tops = [roof.size() for mode, roof in enumerate(self.roofs) if self._ranks[mode] < rank]
            if sum(tops) > MOST_TOPS:
                raise TooMany(MOST_TOPS)
            self._go_on(at)
            if self._widest:
                self._go_on(heappop(self._widest)[-1])

    def _go_on(self, at):
        """Come to all standings behind one take from a standing, once, unless it is within another one by now."""
        if at in self._done:
            return
        self._done[at] = True
        mode, bag, place, _ = self._steps[at]
        for index, name in enumerate(self._program.names):
            if bag[index] == 0:
                continue
            rest = changed(bag, index, -1)
            for end in range(self._program.modes):
                for gain in self._table.gains_over((name, 0, mode, end), bag):
                    if not self.roofs[mode].holds(place):
                        return
                    self._come(end, summed(rest, gain), at)

    def _come(self, mode, bag, ahead):
        """Come to a standing behind another one, with ANY for what rounds make more and more of."""
        roof = self.roofs[mode]
        # What is held already, but was come to otherwise, can be more than a standing not far ahead.
        most = MOST_AHEAD if roof.covers(bag) else len(self._steps)
        lifted = self._lifted(mode, bag, ahead, most)
        if roof.covers(lifted):
            return
        heappush(self._oldest, (self._ranks[mode], len(self._steps)))
        heappush(self._widest, (self._ranks[mode], -lifted.count(ANY), len(self._steps)))
        self._steps.append((mode, lifted, roof.put(lifted), ahead))
        if self._size() > MOST_TOPS and self._is_endless():
            raise TooMany(MOST_TOPS)

    def _is_endless(self):
        """Whether too many tops are shown, or the climb is given up."""
        many = len(self._steps)
        if many < self._look:
            return False
        self._look = 2 * many
        if are_shown(self._program, self._table, self._held(), MOST_TOPS):
            return True
        self._raise_held()
        # Where more is come to by rounds that were not met before, the climb can end soon, though it is long.
        return many >= LAST_LOOK and (len(self._steps) == many or many >= 2 * LAST_LOOK)

    def _raise_held(self):
        """Come to more behind some of the standings that are held, where rounds that are searched for lead to it."""
        held = [at for at, step in enumerate(self._steps) if self.roofs[step[0]].holds(step[2])]
        for index in range(MOST_RAISED):
            at = held[(2 * index + 1) * len(held) // (2 * MOST_RAISED)]
            mode, bag = self._steps[at][:2]
            self._come(mode, raised_by_rounds(self._program, self._table, mode, bag), at)

    def _lifted(self, mode, bag, ahead, most):
        """The bag with ANY for each entry that is more than in a standing within it of so many ones ahead at most."""
        below = self.roofs[mode].below(bag)
        at, left = ahead, most
        while at is not None and left and below:
            other, less, place, before = self._steps[at]
            raised = raised_over(less, bag) if other == mode and (below >> place) & 1 else bag
            at, left = before, left - 1
            if raised != bag:
                # With more in the bag, standings that were passed already can be within it.
                bag, below = raised, self.roofs[mode].below(raised)
                at, left = ahead, most
        return bag


def raised_over(less, bag):
    """The bag with ANY for each entry that is more than the one of a bag within it."""
    return tuple([ANY if few < many else many for few, many in zip(less, bag)])


def mode_ranks(program, table):
    """For each mode a number: less than that of each mode to which tasks lead, but from which none lead back."""
    modes = range(program.modes)
    ways = [(name, 0, mode, end) for name in program.names for mode in modes for end in modes]
    changes = [(way[2], way[3]) for way in ways if table.grammar.is_good(way)]
    return [-len(modes_from(mode, changes)) for mode in modes]


def modes_from(mode, changes):
    """A dict with the modes that a mode leads to by some pairs of modes, and itself."""
    met = {mode: True}
    waiting = [mode]
    while waiting:
        here = waiting.pop()
        for old, new in changes:
            if old == here and new not in met:
                met[new] = True
                waiting.append(new)
    return met
