"""Bounds: how many takes are needed at least, and which ones could be enough if they can be put in an order."""

from heapq import heappop, heappush

from postedbag.plan.joins import are_joined, can_be_made, homes_of, reached, stays
from postedbag.base.bags import ANY
from postedbag.base.linear import tableau_of

# So many turns at one time, so many looks for one bound, and so often in a row the counts are rounded by cuts.
MOST_TURNS = 100
MOST_LOOKS = 80
MOST_ROUNDS = 3
# So many solutions are kept.
MOST_KEPT = 8


class Bounds:
    """How many takes lead at least to the end of a row, from what waits with any number of some tasks."""

    def __init__(self, program, takes, known, end, huge):
        self._program = program
        self._takes = takes
        self._end = end
        self._homes = homes_of(program, takes)
        # The modes count, and the tasks that wait in modes that lead to one another, but not those of which any number
        # waits: these are known.
        self._tasks = [at for at, wide in enumerate(known) if not wide]
        homes = [home for home in range(program.modes) if home in self._homes]
        self._names = list(range(program.modes)) + [(home, task) for home in homes for task in self._tasks]
        rows = [self._take_row(take, huge) for take in takes] + self._carry_rows()
        # By duality the shares of the takes are how often they are made, and the other ones how many tasks are carried.
        limits = [int(at < len(takes)) for at in range(len(rows))]
        self._tableau = tableau_of([self._line(row) for row in rows], limits, self._line({}))
        # The last ones of the parts, and of what they are over, by which bounds were found: they are right everywhere.
        self._kept = []
        # For each task that counts the takes that post any number of it.
        self._wide = [[at for at, take in enumerate(takes) if take[3][task] == ANY] for task in self._tasks]

    def _line(self, row):
        """The entries of a row in their order."""
        return [row.get(name, 0) for name in self._names]

    def _take_row(self, take, huge):
        """What a take changes: the mode, and the tasks that wait."""
        mode, at, end, gain = take
        row = {(self._homes[end], task): huge if gain[task] == ANY else gain[task] for task in self._tasks}
        name = (self._homes[mode], at)
        row[name] = row.get(name, 0) - 1
        if mode != end:
            row[mode], row[end] = -1, 1
        return row

    def _carry_rows(self):
        """The rows of one task that waits on from modes to those that they lead to, but that do not lead back."""
        pairs = {(self._homes[mode], self._homes[end]): True for mode, _, end, _ in self._takes}
        return [
            {(one, task): -1, (other, task): 1}
            for one, other in pairs
            if one != other
            for task in self._tasks
        ]

    def _goal(self, mode, bag):
        """What takes have to change from a mode and a bag to the end of the row."""
        end, needed = self._end
        goal = {(self._homes[end], task): needed[task] for task in self._tasks}
        for task in self._tasks:
            name = (self._homes[mode], task)
            goal[name] = goal.get(name, 0) - bag[task]
        if mode != end:
            goal[mode], goal[end] = -1, 1
        return goal

    def low(self, mode, bag):
        """How many takes lead to the end at least, by what was found for other modes and bags."""
        goal = self._line(self._goal(mode, bag))
        found = [sum([part * entry for part, entry in zip(parts, goal)]) for parts, _ in self._kept]
        return max([0, *[-(-many // whole) for many, (_, whole) in zip(found, self._kept)]])

    def least(self, mode, bag):
        """How many takes lead to the end at least, and how often each of them or None; None for both if none do."""
        self._tableau.aim(self._line(self._goal(mode, bag)))
        queue = []
        put(queue, 0, 0, 0, self._tableau)
        self._kept = [self._tableau.point(len(self._names)), *self._kept[:MOST_KEPT - 1]]
        for look in range(MOST_LOOKS):
            if not queue:
                return None, None
            many, _, rounds, tableau = heappop(queue)
            others = self._others(tableau, rounds, mode, bag)
            if not others:
                counts, whole = self._made(tableau)
                return many, {at: share // whole for at, share in counts.items()}
            for at, (turn, other) in enumerate(others):
                # The latest ones go first, so that the counts soon are whole.
                put(queue, many, -2 * look - at, turn, other)
        return (queue[0][0], None) if queue else (None, None)

    def _made(self, tableau):
        """A dict from the takes to how often they are made, and the whole number that this is over."""
        shares, whole = tableau.shares(len(self._names))
        return {at: share for at, share in shares.items() if at < len(self._takes)}, whole

    def _others(self, tableau, rounds, mode, bag):
        """Pairs of rounds and a tableau that together leave out no right counts; none if a tableau's own are right."""
        if tableau.can_grow():
            return [(rounds, tableau)]
        counts, whole = self._made(tableau)
        for some in self._wide:
            if 0 < sum([counts.get(at, 0) for at in some]) < whole:
                return self._halves(tableau, some, 0, some)
        parts = {at: min(share % whole, -share % whole) for at, share in counts.items() if share % whole}
        if parts and rounds < MOST_ROUNDS:
            return [(rounds + 1, tableau.rounded())]
        if parts:
            at = max(parts, key=lambda one: parts[one])
            return self._halves(tableau, [at], counts[at] // whole, [at])
        return self._joined(tableau, [self._takes[at] for at in counts], mode, bag)

    def _joined(self, tableau, used, mode, bag):
        """The pairs if the counts are whole: none if the used takes are joined, otherwise such as leave these out."""
        if are_joined(self._program, used, mode, bag):
            return []
        modes, tasks = reached(self._program, used, mode, bag)
        # Either nothing leads on from what the used takes come to, or some take that does is made.
        inner = [can_be_made(take, modes, tasks) for take in self._takes]
        stay = [stays(take, modes, tasks) for take in self._takes]
        beyond = [at for at in range(len(inner)) if not inner[at] or not stay[at]]
        return self._halves(tableau, beyond, 0, [at for at in beyond if inner[at]])

    def _halves(self, tableau, some, many, others):
        """The tableau with at most so many of some takes, and with more than these of others."""
        size = len(self._names)
        return [(0, tableau.bounded(size, some, -1, many)), (0, tableau.bounded(size, others, 1, many + 1))]


def put(queue, least, order, rounds, tableau):
    """Put a tableau into a queue, with the least number of takes and its order, unless nothing leads to the end."""
    if tableau.grow(MOST_TURNS):
        heappush(queue, (max(least, tableau.least()), order, rounds, tableau))
