"""Floors: the codes of bags of which none is within another one, where what is more than a bag does not count."""


class Floor:
    """The least ones of the bags that came."""

    def __init__(self, packing):
        self._guard = packing.guard
        # The codes of the bags that are held.
        self.codes = {}
        # The greatest and the least weight of those that came.
        self._heaviest = -1
        self._lightest = -1

    def holds(self, code):
        """Whether just this bag is held."""
        return code in self.codes

    def covers(self, code, weight):
        """Whether one of the bags that are held is within a bag, which has this weight."""
        if code in self.codes:
            return True
        if weight <= self._lightest or not self.codes:
            return False
        guard = self._guard
        top = code | guard
        for other in self.codes:
            if (top - other) & guard == guard:
                return True
        return False

    def put(self, code, weight):
        """Hold a bag that none of those that are held is within, and no longer those that it is within."""
        guard = self._guard
        if weight < self._heaviest:
            above = [other for other in self.codes if ((other | guard) - code) & guard == guard]
            for other in above:
                del self.codes[other]
        self.codes[code] = True
        self._heaviest = max(self._heaviest, weight)
        self._lightest = weight if self._lightest < 0 else min(self._lightest, weight)
