"""Tables: the gains of the ways of a program, and how each of them comes about."""

from postedbag.base.bags import ANY, summed
from postedbag.base.packs import Packing
from postedbag.base.roofs import greatest_of
from postedbag.errors import TooMany
from postedbag.know.grammar import Grammar, way_rows
from postedbag.know.parts import parts_from
from postedbag.know.sums import are_beyond, split, summed_all

MOST_GAINS = 400
# The finite entries of gains are at most this at first.
FIRST_MOST = (1 << 22) - 1


class Part:
    """Ways that lead to one another, with their gains, which are the same for all of them."""

    def __init__(self, number, ways, ends, reached, pumped):
        # What a part leads to has lesser numbers.
        self.number = number
        self.ways = ways
        # The rows of the rules that end the rounds through the ways: the way, the rule, and the ways behind it.
        self.ends = ends
        # Codes with ANY for what can be posted at all, and for what each round through the ways can post.
        self.reached = reached
        self.pumped = pumped
        # The codes of the gains, a number that is the same for the same ones, and what their entries are at most.
        self.codes = []
        self.alike = 0
        self.most = 0
        # The gains themselves, and how each of them comes about, when they are asked for.
        self.bags = None
        self.origins = {}


def table_of(program):
    """The gains of the ways of a program, which are kept with it."""
    if "table" not in program.lore:
        program.lore["table"] = GainTable(program, Grammar(program, way_rows(program), None))
    return program.lore["table"]


class GainTable:
    """The gains of the ways of a program, worked out when they are asked for."""

    def __init__(self, program, grammar):
        self.grammar = grammar
        self.packing = Packing(len(program), FIRST_MOST)
        self._parts = {}
        self._beyond = {}
        # Many ways have the same gains, and their sums are kept by the numbers of these.
        self._numbers = {}
        self._sums = {}
        self._over = {}

    def gains(self, way):
        """The ascending tuple of the gains of a way; TooMany if it, or what it leads to, has too many."""
        if not self.grammar.is_good(way):
            return ()
        part = self.part(way)
        if part.bags is None:
            part.bags = tuple(sorted([self.packing.unpacked(code) for code in part.codes]))
        return part.bags

    def gains_over(self, way, bag):
        """The gains of a way that make a difference to a bag, one of those that are alike where it has not ANY."""
        wide = tuple([ANY if entry == ANY else 0 for entry in bag])
        if (way, wide) not in self._over:
            alike = {}
            for gain in self.gains(way):
                alike.setdefault(summed(gain, wide), gain)
            self._over[way, wide] = [alike[gain] for gain in greatest_of(alike, len(alike))]
        return self._over[way, wide]

    def part(self, way):
        """The part of a good way."""
        if way in self._beyond:
            raise TooMany(MOST_GAINS)
        if way not in self._parts:
            self._settle(way)
        return self._parts[way]

    def is_pumped(self, way, task):
        """Whether rounds from a good way back to itself can post a task."""
        return self.part(way).pumped & self.packing.endless(task) != 0

    def origin(self, way, gain):
        """How a gain of a way comes about: what ends the rounds, as its way, its rule, the ways behind it and a gain of
        each of these; None for the gain that any uses with enough rounds have."""
        part = self.part(way)
        if gain not in part.origins:
            part.origins[gain] = None if part.pumped == part.reached else self._found(part, self.packing.packed(gain))
        return part.origins[gain]

    def _settle(self, way):
        """Work out the parts of a good way and of all that it leads to."""
        for ways in parts_from(self.grammar, way, self._parts):
            part = self._part_of(ways, self._limit_of(way, ways))
            if part is None:
                self._give_up(way, ways)
                raise TooMany(MOST_GAINS)
            for own in ways:
                self._parts[own] = part

    def _limit_of(self, way, ways):
        """How many gains some ways, to which a way leads that is asked for, can have at most."""
        return MOST_GAINS

    def _give_up(self, way, ways):
        """Note that some ways have too many gains, and so a way that leads to them."""
        for own in [way, *ways]:
            self._beyond[own] = True

    def _part_of(self, ways, most):
        """The part of some ways, or None if it has more than the most gains, or leads to one that has too many."""
        inner = {way: True for way in ways}
        rows = [(way, rule, behind) for way in ways for rule, behind in self.grammar.rules(way)]
        if self._beyond and any([own in self._beyond for row in rows for own in (row[0], *row[2])]):
            return None
        reached = 0
        for _, rule, behind in rows:
            reached |= self._posts(rule, behind, inner, 0)
        pumped = 0
        for _, rule, behind in rows:
            for at, other in enumerate(behind):
                if other in inner:
                    pumped |= self._posts(rule, behind[:at] + behind[at + 1:], inner, reached)
        ends = [row for row in rows if not any([own in inner for own in row[2]])]
        part = Part(len(self._parts), ways, ends, reached, pumped)
        return part if self._has_gains(part, most) else None

    def _posts(self, rule, behind, inner, own):
        """A code with ANY for what a rule posts, or some ways behind it, of which inner ones post their own."""
        task = self.grammar.task(rule)
        code = 0 if task is None else self.packing.endless(task)
        for other in behind:
            code |= own if other in inner else self._parts[other].reached
        return code

    def _has_gains(self, part, most):
        """Put the gains into a part, and tell whether they are not more than the most."""
        if part.pumped == part.reached:
            part.codes = [part.pumped]
        else:
            codes = self._sum_of(part, most)
            if codes is None:
                return False
            part.codes = [code | part.pumped for code in codes]
        part.alike = self._number(part.codes)
        return True

    def _number(self, codes):
        """A number for some gains, the same one for the same gains."""
        return self._numbers.setdefault(tuple(sorted(codes)), len(self._numbers))

    def _sum_of(self, part, most):
        """The codes of the gains of a part but for what is pumped, or None if there are more than the most."""
        rows = self._rows_of(part)
        if part.most > self.packing.most:
            self._widen(part)
            rows = self._rows_of(part)
        key = (most, part.pumped, *rows)
        if key not in self._sums:
            keep = self._kept_of(part)
            sums = [(own & keep, [self._cut(other, keep) for other in parts]) for own, parts in rows.values()]
            is_seen = are_beyond(self.packing, sums, most)
            found = [] if is_seen else summed_all(self.packing, sums)
            self._sums[key] = None if is_seen else self.packing.highest(found, most)
        return self._sums[key]

    def _rows_of(self, part):
        """A dict with the sums that make the gains of a part: pairs of the code of a post, or 0, and a list of parts.

        Those that are alike are there once. The part is told what its entries are at most.
        """
        rows = {}
        for _, rule, behind in part.ends:
            own = self._posted(rule)
            parts = [self._parts[way] for way in behind]
            part.most = max([part.most, 1 + sum([other.most for other in parts])])
            key = (own, *[other.alike for other in parts])
            rows[key] = (own, parts)
        return rows

    def _posted(self, rule):
        """The code of the bag that a rule itself posts."""
        task = self.grammar.task(rule)
        return 0 if task is None else self.packing.one(task)

    def _kept_of(self, part):
        """All bits of those entries of which rounds through the ways of a part post none."""
        return self.packing.every ^ self.packing.full(part.pumped)

    def _cut(self, part, keep):
        """The codes of the gains of a part, without those entries that are not kept."""
        if part.reached & ~keep == 0:
            return part.codes
        return self.packing.highest([code & keep for code in part.codes], len(part.codes))

    def _widen(self, part):
        """Take more bits for each entry, for a part that is being worked out needs them."""
        old = self.packing
        self.packing = Packing(old.length, part.most * part.most)
        self._sums, self._numbers = {}, {}
        parts = {other.number: other for other in self._parts.values()}
        for other in list(parts.values()) + [part]:
            other.codes = [self.packing.recoded(code, old) for code in other.codes]
            other.reached = self.packing.recoded(other.reached, old)
            other.pumped = self.packing.recoded(other.pumped, old)
            other.alike = self._number(other.codes)

    def _found(self, part, wanted):
        """What a gain of a part, of which this is the code, is a sum of."""
        keep = self._kept_of(part)
        for way, rule, behind in part.ends:
            lists = [self._parts[other].codes for other in behind]
            codes = split(self.packing, self._posted(rule) & keep, lists, keep, wanted & keep)
            if codes is not None:
                return (way, rule, behind, tuple([self.packing.unpacked(code) for code in codes]))
        return None
