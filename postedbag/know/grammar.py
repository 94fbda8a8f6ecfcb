"""Grammars: the good ways of a program, and the rules that their uses can have."""

from heapq import heapify, heappop, heappush

from postedbag.know.rules import all_ways, behind_of, posted_of, rules_at


class Grammar:
    """For each good way of a program its useful rules and its least uses.

    Paths to a place are like ways; they have a grammar of their own, above the one of the ways.
    """

    def __init__(self, program, rows, base):
        # The rows have a way, a rule of it, and the ways behind the rule.
        self._program = program
        self._base = base
        self._least = least_rows(rows, base)
        self._rules = {way: [] for way in self._least}
        for way, rule, ways in rows:
            if all([self.is_good(other) for other in ways]):
                self._rules[way].append((rule, ways))
        self._rows = rows

    def is_good(self, way):
        """Whether the way has uses."""
        return way in self._least or (self._base is not None and self._base.is_good(way))

    def good(self):
        """The list of all good ways."""
        return list(self._least) + ([] if self._base is None else self._base.good())

    def rules(self, way):
        """The pairs of a rule that uses of a good way can have and the ways behind it."""
        return self._rules[way] if way in self._rules else self._base.rules(way)

    def task(self, rule):
        """The index of the task that a rule posts, or None."""
        name = posted_of(self._program, rule)
        return None if name is None else self._program.names.index(name)

    def users(self):
        """By each way the steps that it stands behind: way ahead, rule, ways behind the rule, index of the way."""
        found = {} if self._base is None else self._base.users()
        for way in self._rules:
            for rule, ways in self._rules[way]:
                for at, other in enumerate(ways):
                    found.setdefault(other, []).append((way, rule, ways, at))
        return found

    def steps(self, way):
        """The least number of steps of a good way."""
        return self._least[way][0] if way in self._least else self._base.steps(way)

    def finish(self, uses, wanted):
        """Put the least uses of each good way into uses, as often as a dict tells."""
        open_ways = {way: wanted[way] for way in wanted}
        # A way was found later than those behind its rule, so from last to first all of its users are known.
        for way in reversed(list(self._least)):
            many = open_ways.get(way, 0)
            if many:
                _, rule, ways = self._rows[self._least[way][1]]
                uses[rule] = uses.get(rule, 0) + many
                for other in ways:
                    open_ways[other] = open_ways.get(other, 0) + many
        if self._base is not None:
            self._base.finish(uses, open_ways)


def way_rows(program):
    """The list of the rows of all ways of a program: the way, a rule of it, and the ways behind the rule."""
    return [
        (way, rule, behind_of(program, rule))
        for way in all_ways(program)
        for rule in rules_at(program, way)
    ]


def least_rows(rows, base):
    """For each good way the least number of its steps and the index of the row that they begin with.

    The good ways of a grammar, if there is one, are known.
    """
    known = {}
    if base is not None:
        known = {own: base.steps(own) for _, _, ways in rows for own in ways if base.is_good(own)}
    missing = [len([own for own in ways if own not in known]) for _, _, ways in rows]
    users = {}
    for at, row in enumerate(rows):
        for way in row[2]:
            users.setdefault(way, []).append(at)
    queue = [(1 + sum([known[own] for own in rows[at][2]]), at) for at, many in enumerate(missing) if many == 0]
    heapify(queue)
    found = {}
    # The cheapest way that is not known yet is always settled next: what is behind it is cheaper.
    while queue:
        steps, at = heappop(queue)
        way = rows[at][0]
        if way in found:
            continue
        found[way] = (steps, at)
        for user in users.get(way, []):
            missing[user] -= 1
            if missing[user] == 0:
                steps = [known[other] if other in known else found[other][0] for other in rows[user][2]]
                heappush(queue, (1 + sum(steps), user))
    return found


def in_order(uses):
    """The uses with their rules in ascending order."""
    return {rule: uses[rule] for rule in sorted(uses)}
