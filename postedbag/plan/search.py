"""Searches for rows of as few takes as possible that lead to a mode with at least a bag."""

from postedbag.plan.bounds import Bounds
from postedbag.plan.bulks import behind_bulk, in_bulks
from postedbag.plan.joins import are_joined
from postedbag.plan.queues import Queues
from postedbag.base.bags import ANY, changed, fits, summed
from postedbag.base.notes import noted
from postedbag.base.roofs import Roof, greatest_of
from postedbag.errors import TooMany
from postedbag.plan.possible import possible_ways, reduced, task_ways

MOST_TAKES = 1000
# So many steps are looked at in a search for rounds.
MOST_LOOKS = 100
# The rows to so many modes and bags are kept with a program.
MOST_KEPT = 200
# So often it is tried to put counted takes in an order at once.
MOST_BULKS = 40


class Search:
    """What can wait behind rows of at most so many takes, the most promising rows first."""

    def __init__(self, program, table, ways, begins, end, most):
        self._program = program
        self._table = table
        # The pairs of a way of a task and the index of the task.
        self._ways = ways
        self._end = end
        self._most = most
        # By a tuple of True for each task of which any number waits: the takes, and their bounds.
        self._known = {}
        # By a way and a gain as it is in a take the gain that it stands for.
        self._gains = {}
        self._seen = [Roof() for _ in range(program.modes)]
        # For each step its mode, its bag, the number of takes, the last take, and the index of the step ahead.
        self._steps = []
        # By a step that was looked at how often each take could be made behind it, or None if that is not known.
        self._counts = {}
        # The steps from which the takes that are counted have been made.
        self._begun = {}
        self._queues = Queues()
        self._is_stuck = False
        # The step from which counted takes have been put in an order, and their row; how often that was tried.
        self._last = None
        self._bulks = []
        self._tries = 0
        for mode, bag in begins:
            self._steps.append((mode, self._cut(bag), 0, None, None))
            self._put(len(self._steps) - 1, 0, False)

    def least_row(self, looks):
        """The first mode and the list of the takes of a least row, or None if there is none.

        It is also None if so many steps have been looked at without an end; there is no such number if it is None.
        """
        many = 0
        while many != looks:
            many += 1
            at, least = self._queues.best(self._is_stuck)
            self._is_stuck = False
            if at is None:
                return None
            mode, bag = self._steps[at][:2]
            if mode == self._end[0] and fits(self._end[1], bag):
                return self._row(at)
            self._go_on(at, least)
            if self._last is not None:
                start, row = self._row(self._last)
                return start, row + self._bulks
        return None

    def _put(self, at, least, is_straight):
        """Keep a step to go on from it later, unless a row through it has too many takes."""
        if least > self._most:
            return
        if is_straight:
            self._queues.put_straight(at, least, self._steps[at][2])
        else:
            self._queues.put(at, least, self._steps[at][2])

    def _go_on(self, at, least):
        """Go on from a step, unless others are as good, or it has to wait."""
        mode, bag, many = self._steps[at][:3]
        if at in self._begun:
            self._go_elsewhere(at, least)
            return
        # A wide bag is within another one if fewer takes lead to more there.
        own = (-2 - many, *bag)
        if self._seen[mode].covers(own) or not self._is_ready(at, least):
            return
        self._seen[mode].put(own)
        if self._counts[at] is None:
            self._go_elsewhere(at, least)
        else:
            self._go_straight(at, least)

    def _is_ready(self, at, least):
        """Whether a row through a step can have so few takes; otherwise the step is put back or given up."""
        if at in self._counts:
            return True
        mode, bag, many = self._steps[at][:3]
        bounds = self._takes_there(bag)[1]
        low = many + bounds.low(mode, bag)
        if low > least:
            self._put(at, low, False)
            return False
        more, counts = bounds.least(mode, bag)
        if more is None:
            return False
        self._counts[at] = counts
        if many + more > least:
            self._put(at, many + more, counts is not None)
            return False
        return True

    def _go_straight(self, at, least):
        """Make those takes from a step that are counted there."""
        mode, bag = self._steps[at][:2]
        takes = self._takes_there(bag)[0]
        counts = self._counts[at]
        if self._is_found(at, takes, counts):
            return
        self._begun[at] = True
        self._put(at, least, False)
        there = [index for index in counts if is_there(takes[index], mode, bag)]
        # Where counts do not lead on, it is better to go on elsewhere before other orders of them are tried.
        self._is_stuck = True
        # It is best to have any number of a task as soon as possible.
        for index in sorted(there, key=lambda one: -takes[one][3].count(ANY)):
            self._come(at, takes[index], least, less(counts, index))

    def _is_found(self, at, takes, counts):
        """Whether takes that are counted at a step lead from there to the end in an order that is found at once."""
        mode, bag = self._steps[at][:2]
        self._tries += 1
        bulks = in_bulks(takes, counts, mode, bag, self._end) if self._tries <= MOST_BULKS else None
        if bulks is not None:
            self._last = at
            self._bulks = [(*self._way_and_gain(takes[index]), many) for index, many in bulks]
        return bulks is not None

    def _go_elsewhere(self, at, least):
        """Make those takes from a step that are not counted there."""
        mode, bag = self._steps[at][:2]
        counts = self._counts[at] or {}
        for index, take in enumerate(self._takes_there(bag)[0]):
            if index not in counts and is_there(take, mode, bag):
                self._come(at, take, least, None)

    def _come(self, ahead, take, least, counts):
        """Come to a step behind another one by a take; the counts, if there are any, could lead on."""
        _, bag, many = self._steps[ahead][:3]
        _, task, end, gain = take
        behind = self._cut(summed(changed(bag, task, -1), gain))
        if self._seen[end].covers((-3 - many, *behind)):
            return
        is_straight = False
        at = len(self._steps)
        if counts is not None:
            # If there is any number of more tasks by now, the counts have to be found again.
            is_straight = wide_places(bag) != wide_places(behind)
            takes = self._takes_there(bag)[0]
            if not is_straight and are_joined(self._program, [takes[index] for index in counts], end, behind):
                is_straight = True
                self._counts[at] = counts
            self._is_stuck = self._is_stuck and not is_straight
        self._steps.append((end, behind, many + 1, take, ahead))
        self._put(at, max(least, many + 1), is_straight)

    def _takes_there(self, bag):
        """The list of the takes that make a difference to a bag, and their bounds."""
        known = wide_places(bag)
        if known not in self._known:
            takes = [take for way, task in self._ways for take in self._takes_of(way, task, bag)]
            # This stands for ANY: more tasks are never needed of a kind for a row of so many takes.
            huge = max(self._end[1]) + self._most
            self._known[known] = (takes, Bounds(self._program, takes, known, self._end, huge))
        return self._known[known]

    def _takes_of(self, way, task, bag):
        """The list of the takes by a way that make a difference to a bag."""
        found = {}
        for gain in self._table.gains_over(way, bag):
            found.setdefault(self._cut(gain), gain)
        kept = greatest_of(found, len(found))
        for gain in kept:
            self._gains[way, gain] = found[gain]
        return [(way[2], task, way[3], gain) for gain in kept]

    def _cut(self, bag):
        """The bag with ANY for more tasks than can be needed on a row."""
        return tuple([ANY if many >= end + self._most else many for many, end in zip(bag, self._end[1])])

    def _row(self, at):
        """The first mode, and the list of the takes to a step: a way, a gain, and how often the take is made."""
        row = []
        while self._steps[at][3] is not None:
            row.append((*self._way_and_gain(self._steps[at][3]), 1))
            at = self._steps[at][4]
        return self._steps[at][0], row[::-1]

    def _way_and_gain(self, take):
        """The way of a take, and the gain that its own one stands for."""
        mode, task, end, gain = take
        way = (self._program.names[task], 0, mode, end)
        return way, self._gains[way, gain]


def wide_places(bag):
    """A tuple of True for each task of which any number waits."""
    return tuple([many == ANY for many in bag])


def is_there(take, mode, bag):
    """Whether a take can be made in a mode and out of a bag."""
    return take[0] == mode and bag[take[1]] != 0


def less(counts, index):
    """The counts with one less of a take."""
    return {one: counts[one] - int(one == index) for one in counts if one != index or counts[one] > 1}


def least_row(program, table, covered, mode, bag):
    """The start of a least row to what is covered, and the list of its takes.

    They are told by a way, a gain, and how often the take is made. TooMany if there are too many takes.
    """
    kept = noted(program.notes, "rows", MOST_KEPT)
    if (mode, bag) not in kept:
        kept[mode, bag] = found_row(program, table, covered, mode, bag)
    if kept[mode, bag] is None:
        raise TooMany(MOST_TAKES)
    return kept[mode, bag]


def found_row(program, table, covered, mode, bag):
    """The start and the takes of a least row to what is covered, or None if there are too many takes."""
    ways = covered_ways(program, table, covered, mode)
    begins = [(start, program.begin) for start in program.starts]
    most = first_most(program, table, ways, (mode, bag))
    while most <= MOST_TAKES:
        # If a row can have a few takes only, fewer takes are different from one another.
        row = Search(program, table, ways, begins, (mode, bag), most).least_row(None)
        if row is not None:
            return row
        most = MOST_TAKES if most < MOST_TAKES < 2 * most else 2 * most
    return None


def raised_by_rounds(program, table, mode, bag):
    """The wide bag with ANY for tasks of which rounds, from a mode and this bag, are found to make more and more."""
    try:
        ways = [(way, program.names.index(way[0])) for way in possible_ways(program, table)]
    except TooMany:
        return bag
    for task, many in enumerate(bag):
        if bag[task] != ANY:
            needed = changed(tuple([0 if entry == ANY else entry for entry in bag]), task, 1)
            row = Search(program, table, ways, [(mode, bag)], (mode, needed), MOST_TAKES).least_row(MOST_LOOKS)
            behind = bag if row is None else behind_row(program, bag, row[1])
            bag = tuple([ANY if more == ANY or more > few else few for few, more in zip(bag, behind)])
    return bag


def behind_row(program, bag, row):
    """The wide bag behind the takes of a row."""
    for way, gain, many in row:
        bag = tuple(behind_bulk((way[2], program.names.index(way[0]), way[3], gain), many, bag))
    return bag


def length_of(row):
    """The number of the takes of a row."""
    return sum([many for _, _, many in row])


def first_most(program, table, ways, end):
    """A number of takes that no row to an end is shorter than, or 1."""
    takes = reduced([(way[2], task, way[3], gain) for way, task in ways for gain in table.gains(way)])
    bounds = Bounds(program, takes, (False,) * len(program), end, max(end[1]) + MOST_TAKES)
    found = [bounds.least(start, program.begin)[0] for start in program.starts]
    return max(1, min([least for least in found if least is not None], default=MOST_TAKES + 1))


def covered_ways(program, table, covered, mode):
    """The pairs of a way of a task and the index of the task, for the tasks that can be taken on rows to a mode."""
    found = []
    for begin in range(program.modes):
        there = [covered.covers(begin, single(len(program), at)) for at in range(len(program))]
        ways = task_ways(program, begin, there)
        found.extend([(way, program.names.index(way[0])) for way in ways if table.gains(way)])
    back = {mode: True}
    grown = True
    while grown:
        more = [way[2] for way, _ in found if way[3] in back and way[2] not in back]
        back.update({other: True for other in more})
        grown = len(more) > 0
    return [(way, at) for way, at in found if way[3] in back]


def single(length, at):
    """The bag with one task."""
    return tuple([int(index == at) for index in range(length)])
