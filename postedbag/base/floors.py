"""Floors: the codes of bags of which only the least ones count, while ever more come."""

# So many bags are looked at one by one before they are put on the shelf.
MOST_LATE = 96


class Shelf:
    """Many bags at once: for each entry the bags that have at most as much, with a bit for each bag."""

    def __init__(self, length):
        self._many = 0
        self._values = [[] for _ in range(length)]
        self._bits = [[] for _ in range(length)]

    def put(self, bags):
        """Take in some bags."""
        for at in range(len(self._values)):
            fresh = {}
            for index, bag in enumerate(bags):
                fresh[bag[at]] = fresh.get(bag[at], 0) | 1 << (self._many + index)
            self._merge(at, fresh)
        self._many += len(bags)

    def _merge(self, at, fresh):
        """Take in the bits of bags by the values that they have as an entry."""
        known = {value: bits for value, bits in zip(self._values[at], self._bits[at])}
        values = sorted(set(list(known) + list(fresh)))
        old, new = 0, 0
        merged = []
        for value in values:
            old = known.get(value, old)
            new |= fresh.get(value, 0)
            merged.append(old | new)
        self._values[at], self._bits[at] = values, merged

    def covers(self, bag):
        """Whether one of the bags that came is within a bag."""
        bits = -1
        for values, some, entry in zip(self._values, self._bits, bag):
            at = places_up_to(values, entry)
            bits &= some[at - 1] if at else 0
            if bits == 0:
                return False
        return True


class Floor:
    """The bags that came; a bag counts only if no other one is within it."""

    def __init__(self, packing):
        self._packing = packing
        self.codes = {}
        self._lightest = -1
        self._late = []
        self._shelf = Shelf(packing.length)

    def covers(self, code, weight):
        """Whether one of the bags that came is within a bag, which has this weight."""
        if code in self.codes:
            return True
        # Only a bag that is less heavy can be within another one.
        if weight <= self._lightest or not self.codes:
            return False
        if len(self._late) > MOST_LATE:
            self._shelf.put([self._packing.entries(late) for late in self._late])
            self._late = []
        guard = self._packing.guard
        top = code | guard
        for other in self._late:
            if (top - other) & guard == guard:
                return True
        return len(self.codes) > len(self._late) and self._shelf.covers(self._packing.entries(code))

    def put(self, code, weight):
        """Take in a bag that none of those that came is within."""
        self.codes[code] = True
        self._lightest = weight if self._lightest < 0 else min(self._lightest, weight)
        self._late.append(code)

    def least(self):
        """The list of the codes of the bags that count."""
        weights = {code: code % self._packing.whole for code in self.codes}
        if len(set(list(weights.values()))) <= 1:
            return list(weights)
        floor = Floor(self._packing)
        for code in sorted(weights, key=lambda one: weights[one]):
            if not floor.covers(code, weights[code]):
                floor.put(code, weights[code])
        return list(floor.codes)


def places_up_to(values, most):
    """How many of some ascending values are at most as much."""
    low, high = 0, len(values)
    while low < high:
        between = (low + high) // 2
        if values[between] <= most:
            low = between + 1
        else:
            high = between
    return low
