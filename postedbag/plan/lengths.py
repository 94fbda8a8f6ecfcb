"""Long rows: whether rows can have any number of takes, and how many they have otherwise."""

from postedbag.errors import TooMany
from postedbag.know.tables import table_of
from postedbag.plan.loops import may_loop
from postedbag.plan.rounds import RoundSearch
from postedbag.plan.tallies import Tally
from postedbag.plan.walks import MOST_TAKES, Ground, Walk

# So many standings are followed before it is tried to do without.
FIRST_BUDGET = 300
# More standings are not followed at all.
LAST_BUDGET = 150000
# The entries of gains are taken to be at most this, until there is a greater one.
FIRST_MOST = 255


class Facts:
    """What is known of the rows of a program."""

    def __init__(self, program, table, most):
        self._program = program
        self.ground = Ground(program, table, most)
        # The standings of a row that shows that rows are long, and the index of the one that comes back; or None.
        self.round = None
        # The greatest number of takes, or None.
        self.length = None
        # By each standing that rows come to the number of takes from there, or None if that was not worked out.
        self.lengths = None
        # A row of the greatest number of takes by its counts, or None.
        self.tally = None
        self._find(Walk(self.ground, FIRST_BUDGET), table)

    def _find(self, walk, table):
        """Find out whether rows are long, and their length otherwise."""
        if not self._is_settled(walk):
            tally = Tally(self._program, table)
            if tally.most is None and (not tally.counted or may_loop(self._program, tally.counted)):
                search = RoundSearch(self.ground, self._program.modes)
                self.round = search.round
            if self.round is None and not walk.is_over:
                self._find_length(tally)

    def _find_length(self, tally):
        """Find the length, where rows are not long as far as is known."""
        if tally.row is not None:
            if tally.most <= MOST_TAKES:
                self.length = tally.most
                self.tally = tally
        else:
            self._is_settled(Walk(self.ground, LAST_BUDGET))

    def _is_settled(self, walk):
        """Whether a walk tells all that is asked."""
        if walk.round is not None:
            self.round = walk.round
        if walk.is_whole():
            self.lengths = walk.lengths
            self.length = max([walk.lengths[first] for first in self.ground.firsts])
        return walk.round is not None or walk.is_whole()

    def is_known(self):
        """Whether it is known whether rows are long."""
        return self.round is not None or self.length is not None

    def takes_along(self, row):
        """The tuple of the takes between the standings of a row: a task, the mode at its end, and a gain."""
        return tuple([self.ground.take_between(one, other) for one, other in zip(row, row[1:])])

    def first_takes(self, many):
        """A start and the list of the first takes of a row; there are rows with so many takes."""
        if self.round is not None:
            row, at = self.round
            takes = list(self.takes_along(row))
            part = takes[at:]
            while len(takes) < many:
                takes.extend(part)
            return row[0][0], takes[:many]
        if self.tally is not None:
            start, bulks = self.tally.row
            takes = [self._told(self.tally.counted[index]) for index, times in bulks for _ in range(min(times, many))]
            return start, takes[:many]
        row = [max(self.ground.firsts, key=lambda first: self.lengths[first])]
        for _ in range(many):
            mode, code = row[-1]
            row.append(max(self.ground.behind(mode, code), key=lambda other: self.lengths[other]))
        return row[0][0], list(self.takes_along(row))

    def _told(self, take):
        """A take as a task, the mode at its end, and its gain."""
        return (self._program.names[take[1]], take[2], take[3])

    def table(self):
        """By each standing that rows come to the number of takes from there; rows are not long."""
        if self.lengths is None:
            walk = Walk(self.ground, LAST_BUDGET)
            if not walk.is_whole():
                raise TooMany(MOST_TAKES)
            self.lengths = walk.lengths
        return self.lengths


def facts_of(program):
    """What is known of the rows of a program, which is kept with it; TooMany if some have too many takes."""
    if "facts" not in program.notes:
        program.notes["facts"] = found_facts(program)
    facts = program.notes["facts"]
    if facts is None or not facts.is_known():
        raise TooMany(MOST_TAKES)
    return facts


def found_facts(program):
    """What is known of the rows of a program, or None if some task that is taken has too many gains."""
    table = table_of(program)
    try:
        facts = Facts(program, table, FIRST_MOST)
        while facts.ground.turns.needed:
            facts = Facts(program, table, facts.ground.turns.needed)
    except TooMany:
        return None
    return facts
