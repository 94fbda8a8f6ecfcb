"""Sides: searches for a row of takes, from its end back or from its start on, the most promising rows first."""

from heapq import heappop, heappush

from postedbag.ask.bounds import Weights, goal_of, heavy, joined_goals
from postedbag.base.bags import ANY, changed, fits, summed
from postedbag.base.roofs import Roof, greatest_of
from postedbag.plan.possible import most_of, reduced
from postedbag.plan.proofs import start_rows

MOST_TAKES = 1000
# So often weights are made for a mode and a bag behind which a search went astray.
MOST_LESSONS = 100
# How much more the bound of what is looked at counts than the bounds of everything else.
FIRST = 10 ** 6


class Question:
    """What is searched for, and with which takes."""

    def __init__(self, program, table, roofs, ways, end):
        self.asked = program
        self.table = table
        self.roofs = roofs
        # The pairs of a way of a task and the index of the task.
        self.ways = ways
        self.end = end

    def weights(self, known, more):
        """Weights for the takes and some more rows, without the tasks that are known to be ANY."""
        takes = reduced([
            (way[2], at, way[3], tuple([0 if wide else many for wide, many in zip(known, gain)]))
            for way, at in self.ways
            for gain in self.table.gains(way)
        ])
        # This stands for ANY: more tasks are never needed of a kind for a row of so many takes.
        huge = most_of(self.asked, takes, self.end[1]) ** 2 + 2 * MOST_TAKES
        return Weights(self.asked, takes, huge, known, more)


class Side:
    """One side of a search: what was come to from one end of the row."""

    def __init__(self, question):
        self._question = question
        self._seen = [Roof() for _ in range(question.asked.modes)]
        # For each mode and bag that was come to: these, its index among those seen, the number of takes, the last of
        # them with its way and its gain, and the index of what it was come to from.
        self._steps = []
        # What can be on a row with as few takes as are allowed by now, and what can only be on a longer one.
        self._ready = []
        self._later = []
        self._lessons = 0
        self._last = -1

    def lowest(self):
        """How many takes a row has at least that this side can still find, or None, while nothing is ready."""
        return self._later[0][0] if self._later else None

    def is_ready(self, allowed):
        """Whether something can be on a row with at most so many takes."""
        while self._later and self._later[0][0] <= allowed:
            at = heappop(self._later)[1]
            heappush(self._ready, (-self._steps[at][3], at))
        return len(self._ready) > 0

    def go_on(self, allowed):
        """Go on from what has most takes; return its index if the other end of the row is met, otherwise None."""
        at = heappop(self._ready)[1]
        mode, bag, place, many = self._steps[at][:4]
        if not self._seen[mode].holds(place):
            return None
        if self.is_met(mode, bag):
            return at
        least = many + self.least(mode, bag)
        if many <= self._last and least <= allowed and self._lessons < MOST_LESSONS:
            # The search went astray: what the bounds do not see there they are taught.
            self._lessons += 1
            self.learn(mode, bag)
            least = many + self.least(mode, bag)
        self._last = many
        if least <= allowed:
            for other, more, take in self.neighbours(mode, bag):
                self.put(other, more, many + 1, take, at, allowed)
        elif least <= MOST_TAKES:
            heappush(self._later, (least, at))
        return None

    def put(self, mode, bag, many, take, ahead, allowed):
        """Come to a mode and a bag, unless others are as good."""
        turned = self.turned(many, bag)
        if self._seen[mode].covers(turned):
            return
        least = many + self.least(mode, bag)
        if least > MOST_TAKES:
            return
        at = len(self._steps)
        self._steps.append((mode, bag, self._seen[mode].put(turned), many, take, ahead))
        if least <= allowed:
            heappush(self._ready, (-many, at))
        else:
            heappush(self._later, (least, at))

    def trail(self, at):
        """The list of the pairs of a mode and a take, from a step back to where this side began, where no take is."""
        found = []
        while at is not None:
            found.append((self._steps[at][0], self._steps[at][4]))
            at = self._steps[at][5]
        return found


class Back(Side):
    """The side that begins at the end of the row: what must wait so that some takes do."""

    def __init__(self, question):
        Side.__init__(self, question)
        program = question.asked
        self._weights = question.weights((False,) * len(program), start_rows(program))
        self._sharp = {}
        mode, bag = question.end
        self.learn(mode, bag)
        self.put(mode, bag, 0, None, None, 0)

    def is_met(self, mode, bag):
        """Whether a row can begin where this must wait."""
        program = self._question.asked
        return mode in program.starts and fits(bag, program.begin)

    def turned(self, many, bag):
        """A wide bag that is within another one if fewer takes do with less there."""
        return tuple([-2 - entry for entry in (many, *bag)])

    def least(self, mode, bag):
        """How many takes at least lead from a start to what must wait."""
        return max([0, *[
            -((kind[2] - heavy(kind, mode, bag)) // kind[3])
            for kind in self._weights.kinds
        ]])

    def learn(self, mode, bag):
        """Learn weights that are good for a mode and a bag that must wait."""
        weights = self._weights
        # Among the weights that are best for this bag, those are taken that are good for others, too.
        goal = {name: 1 for name in weights.columns}
        goal["most"] = -self._question.asked.modes - FIRST
        weights.learn(joined_goals(goal, goal_of(mode, bag, FIRST)))

    def neighbours(self, mode, bag):
        """The list of what must wait ahead of one more take: mode, bag, and the way and the gain of the take."""
        found = []
        for way, at in self._question.ways:
            if way[3] == mode:
                for gain in self._gains(way, bag):
                    rest = tuple([0 if more == ANY else max(0, many - more) for many, more in zip(bag, gain)])
                    found.append((way[2], changed(rest, at, 1), (way, gain)))
        # What is not covered is never there.
        return [row for row in found if self._question.roofs[row[0]].covers(row[1])]

    def _gains(self, way, bag):
        """Gains of a way, one for those that are alike where a bag has entries."""
        needed = tuple([many > 0 for many in bag])
        if (way, needed) not in self._sharp:
            alike = {}
            for gain in self._question.table.gains(way):
                alike.setdefault(tuple([more if need else 0 for more, need in zip(gain, needed)]), gain)
            self._sharp[way, needed] = [alike[gain] for gain in greatest_of(alike, len(alike))]
        return self._sharp[way, needed]


class Fore(Side):
    """The side that begins at the starts of the row: what waits behind some takes."""

    def __init__(self, question):
        Side.__init__(self, question)
        # By a tuple of True for each task of which any number waits: what is left of the question then.
        self._weights = {}
        program = question.asked
        for start in program.starts:
            self.put(start, self._cut(program.begin), 0, None, None, 0)

    def is_met(self, mode, bag):
        """Whether the end of the row is come to."""
        return mode == self._question.end[0] and fits(self._question.end[1], bag)

    def turned(self, many, bag):
        """A wide bag that is within another one if fewer takes lead to more there."""
        return (-2 - many, *bag)

    def least(self, mode, bag):
        """How many takes at least lead from what waits to the end of the row."""
        known = tuple([many == ANY for many in bag])
        if known not in self._weights:
            self._weights[known] = self._question.weights(known, [])
            self.learn(mode, bag)
        end = self._question.end
        return max([0, *[
            -((heavy(kind, mode, bag) - heavy(kind, end[0], end[1])) // kind[3])
            for kind in self._weights[known].kinds
        ]])

    def learn(self, mode, bag):
        """Learn weights that are good for a mode and a bag that waits."""
        end = self._question.end
        goal = joined_goals(goal_of(end[0], end[1], 1), goal_of(mode, bag, -1))
        self._weights[tuple([many == ANY for many in bag])].learn(goal)

    def neighbours(self, mode, bag):
        """The list of what waits behind one more take: mode, bag, and the way and the gain of the take."""
        return [
            (way[3], self._cut(summed(changed(bag, at, -1), gain)), (way, gain))
            for way, at in self._question.ways
            if way[2] == mode and bag[at] != 0
            for gain in self._question.table.gains_over(way, bag)
        ]

    def _cut(self, bag):
        """The bag with ANY for more tasks than can be needed on a row."""
        ends = self._question.end[1]
        return tuple([ANY if many >= end + MOST_TAKES else many for many, end in zip(bag, ends)])
