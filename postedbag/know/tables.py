"""Tables: the gains of the ways of a program, and how each of them comes about."""

from postedbag.base.bags import ANY, changed, summed
from postedbag.base.roofs import greatest_of
from postedbag.errors import TooMany
from postedbag.know.grammar import Grammar
from postedbag.know.parts import parts_from

MOST_GAINS = 400


class Part:
    """Ways that lead to one another, with their gains, which are the same for all of them."""

    def __init__(self, number, ways, reached, pumped, origins):
        # What a part leads to has lesser numbers.
        self.number = number
        self.ways = ways
        # Wide bags with ANY for what can be posted at all, and for what each round through the ways can post.
        self.reached = reached
        self.pumped = pumped
        # By each gain the way and the rule that end the rounds, the ways behind it, and their gains;
        # None for the gain that any uses with enough rounds have.
        self.origins = origins
        self.bags = tuple(sorted(origins))


class GainTable:
    """The gains of the ways of a program, worked out when they are asked for."""

    def __init__(self, program):
        self.grammar = Grammar(program)
        self._nothing = (0,) * len(program)
        self._parts = {}
        self._beyond = {}
        # Many ways have the same gains: each tuple of gains has a number, and their sums are kept by these numbers.
        self._numbers = {}
        self._sums = {}
        self._over = {}

    def gains(self, way):
        """The ascending tuple of the gains of a way; TooMany if it, or what it leads to, has too many."""
        return self.part(way).bags if self.grammar.is_good(way) else ()

    def gains_over(self, way, bag):
        """The gains of a way that make a difference to a bag, one of those that are alike where it has not ANY."""
        wide = tuple([ANY if entry == ANY else 0 for entry in bag])
        if (way, wide) not in self._over:
            alike = {}
            for gain in self.gains(way):
                alike.setdefault(summed(gain, wide), gain)
            self._over[way, wide] = [alike[gain] for gain in greatest_of(alike, MOST_GAINS)]
        return self._over[way, wide]

    def part(self, way):
        """The part of a good way."""
        if way in self._beyond:
            raise TooMany(MOST_GAINS)
        if way not in self._parts:
            self._settle(way)
        return self._parts[way]

    def _settle(self, way):
        """Work out the parts of a good way and of all that it leads to."""
        for ways in parts_from(self.grammar, way, self._parts):
            part = self._worked_out(ways)
            if part is None:
                for own in [way, *ways]:
                    self._beyond[own] = True
                raise TooMany(MOST_GAINS)
            for own in ways:
                self._parts[own] = part

    def _worked_out(self, ways):
        """The part of some ways, or None if it has too many gains, or leads to such a one."""
        inner = {way: True for way in ways}
        rows = [(way, rule, behind) for way in ways for rule, behind in self.grammar.rules(way)]
        if any([own in self._beyond for row in rows for own in (row[0], *row[2])]):
            return None
        reached = self._nothing
        for _, rule, behind in rows:
            reached = summed(reached, self._posts(rule, behind, inner, self._nothing))
        pumped = self._nothing
        for _, rule, behind in rows:
            for at, other in enumerate(behind):
                if other in inner:
                    pumped = summed(pumped, self._posts(rule, behind[:at] + behind[at + 1:], inner, reached))
        ends = [row for row in rows if not any([own in inner for own in row[2]])]
        origins = {pumped: None} if pumped == reached else self._origins(ends, pumped)
        return None if origins is None else Part(len(self._parts), ways, reached, pumped, origins)

    def _posts(self, rule, behind, inner, own):
        """A wide bag with ANY for what a rule posts, or some ways behind it, of which inner ones post their own."""
        task = self.grammar.task(rule)
        bag = tuple([ANY if at == task else 0 for at in range(len(self._nothing))])
        for other in behind:
            bag = summed(bag, own if other in inner else self._parts[other].reached)
        return bag

    def _origins(self, ends, pumped):
        """By each gain of a part how it comes about from the rules that end its rounds; None if there are too many."""
        found = {}
        seen = set()
        for way, rule, behind in ends:
            task = self.grammar.task(rule)
            numbers = tuple([self._number(self._parts[other].bags) for other in behind])
            if (numbers, task) in seen:
                continue
            seen.add((numbers, task))
            if (numbers, task, pumped) not in self._sums:
                self._sums[numbers, task, pumped] = self._summed(behind, task, pumped)
            for bag, gains in self._sums[numbers, task, pumped].items():
                found.setdefault(bag, (way, rule, behind, gains))
        kept = greatest_of(found, MOST_GAINS)
        return None if kept is None else {bag: found[bag] for bag in kept}

    def _number(self, bags):
        """The number of a tuple of gains."""
        return self._numbers.setdefault(bags, len(self._numbers))

    def _summed(self, behind, task, pumped):
        """The sums of what is pumped, of a post of a task and of a gain of each way behind it, with these gains."""
        sums = {pumped if task is None else changed(pumped, task, 1): ()}
        for other in behind:
            sums = self._extended(sums, other, pumped)
        kept = greatest_of(sums, MOST_GAINS)
        return sums if kept is None else {bag: sums[bag] for bag in kept}

    def _extended(self, sums, way, pumped):
        """Each sum of a bag and a gain of a way, with the tuple of the gains that it is a sum of."""
        # Gains that differ only in what is pumped anyway make the same sums.
        raised = {summed(gain, pumped): gain for gain in self._parts[way].bags}
        if len(raised) > 1 and ANY in pumped:
            raised = {bag: raised[bag] for bag in greatest_of(raised, MOST_GAINS)}
        found = {}
        for bag, gains in sums.items():
            for more, gain in raised.items():
                found.setdefault(summed(bag, more), gains + (gain,))
        return found
