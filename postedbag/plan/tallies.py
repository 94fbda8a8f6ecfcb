"""Tallies: how many takes rows can have at most, by counting what takes need and post."""

from postedbag.base.bags import ANY
from postedbag.base.linear import tableau_of
from postedbag.errors import TooMany
from postedbag.plan.bulks import in_bulks
from postedbag.plan.joins import homes_of
from postedbag.plan.possible import possible_ways

MOST_TURNS = 600
# With more different takes it is not tried.
MOST_TAKES = 400


class Tally:
    """A number of takes that no row has more of, and a row of so many takes if one is found."""

    def __init__(self, program, table):
        self._program = program
        # The takes: mode, index of the task, mode behind, gain.
        self.counted = []
        # No row has more takes than this; None if that is not known.
        self.most = None
        # The start of a row of so many takes and its bulks; None if none is found.
        self.row = None
        try:
            self.counted = [
                (way[2], program.names.index(way[0]), way[3], gain)
                for way in possible_ways(program, table)
                for gain in table.gains(way)
            ]
        except TooMany:
            # What is possible need not come about: it is not told that there are too many gains.
            self.counted = []
        if 0 < len(self.counted) <= MOST_TAKES:
            self._count()

    def _count(self):
        """Find the most takes from each start, and a row of so many."""
        rows = []
        for start in self._program.starts:
            counts, whole = self._counted(start)
            if counts is None:
                return
            rows.append((sum(counts) // whole, start, self._row_of(start, counts, whole)))
        self.most = max([many for many, _, _ in rows])
        for many, start, bulks in rows:
            if many == self.most and bulks is not None:
                self.row = (start, bulks)

    def _row_of(self, start, counts, whole):
        """The bulks of a row from a start in which the takes are made so often, if one is found at once."""
        if not all([count % whole == 0 for count in counts]):
            return None
        wanted = {at: count // whole for at, count in enumerate(counts) if count}
        return in_bulks(self.counted, wanted, start, self._program.begin, None)

    def _counted(self, start):
        """How often each take is made from a start where they are most together, and the number that this is over."""
        homes = homes_of(self._program, self.counted)
        # Tasks of which any number can come do not count.
        tasks = [at for at in range(len(self._program)) if not any([take[3][at] == ANY for take in self.counted])]
        pairs = {(homes[mode], homes[end]): True for mode, _, end, _ in self.counted}
        # Tasks wait in modes that lead to one another; from there they can be carried to modes that do not lead back.
        carried = [(one, other, at) for one, other in pairs if one != other for at in tasks]
        rows, limits = [], []
        for home in sorted(set(homes)):
            for at in tasks:
                row = [needed_at(take, homes, home, at) for take in self.counted]
                signs = [int(one == home) - int(other == home) for one, other, _ in carried]
                rows.append(row + [sign if pair[2] == at else 0 for sign, pair in zip(signs, carried)])
                limits.append(self._program.begin[at] if home == homes[start] else 0)
        for mode in range(self._program.modes):
            rows.append([int(take[0] == mode) - int(take[2] == mode) for take in self.counted] + [0] * len(carried))
            limits.append(int(mode == start))
        tableau = tableau_of(rows, limits, [1] * len(self.counted) + [0] * len(carried))
        if not tableau.grow(MOST_TURNS) or tableau.can_grow():
            return None, 1
        counts, whole = tableau.point(len(self.counted))
        return counts, whole


def needed_at(take, homes, home, at):
    """How many more tasks with an index a take needs than it posts, in the modes of a home."""
    mode, task, end, gain = take
    needed = int(task == at) if homes[mode] == home else 0
    return needed - (gain[at] if homes[end] == home else 0)
