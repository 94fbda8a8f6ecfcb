"""Bounds: how many takes are needed at least, by weights to which no take adds more than 1."""

from postedbag.base.bags import ANY
from postedbag.plan.proofs import columns_of, solved, take_rows

# No weight is more than this, so that there always are greatest ones.
MOST_WEIGHT = 2000
# So many kinds of weights are kept; the first ones stay.
MOST_KINDS = 40


class Weights:
    """Kinds of weights of modes, and of tasks in modes, to which no take adds more than 1."""

    def __init__(self, program, takes, huge, known, more):
        # A task of which any number waits weighs nothing.
        free = {(mode, at): True for mode in range(program.modes) for at, wide in enumerate(known) if wide}
        rows, changes = [[without(row, free) for row in some] for some in take_rows(takes, huge)]
        self._shape = (program.modes, len(program))
        self._rows = rows + changes + more
        self._limits = [1] * len(rows) + [0] * len(changes + more)
        self.columns = [name for name in columns_of(self._rows) if name != "most"]
        self._rows.extend([{name: 1} for name in self.columns])
        self._limits.extend([MOST_WEIGHT] * len(self.columns))
        # For each kind the weights of the modes, those of the tasks in each mode, the most, and what 1 take can add.
        self.kinds = []

    def learn(self, goal):
        """Add the kind that makes a goal as great as possible."""
        weights, whole = solved(self._rows, self._limits, goal) if self.columns else ({}, 1)
        modes, tasks = self._shape
        own = [weights.get(mode, 0) for mode in range(modes)]
        inner = [[weights.get((mode, at), 0) for at in range(tasks)] for mode in range(modes)]
        self.kinds.append((own, inner, weights.get("most", 0), whole))
        if len(self.kinds) > MOST_KINDS:
            del self.kinds[1]


def without(row, free):
    """A row without some names."""
    return {name: row[name] for name in row if name not in free}


def heavy(kind, mode, bag):
    """How heavy a mode and a bag are, without what is ANY in the bag."""
    return kind[0][mode] + sum([weight * many for weight, many in zip(kind[1][mode], bag) if many != ANY])


def goal_of(mode, bag, many):
    """The goal that has so many times what a mode and a bag weigh, without what is ANY in the bag."""
    goal = {(mode, at): many * entry for at, entry in enumerate(bag) if entry != ANY}
    goal[mode] = many
    return goal


def joined_goals(one, other):
    """The sum of two goals."""
    return {name: one.get(name, 0) + other.get(name, 0) for name in {**one, **other}}
