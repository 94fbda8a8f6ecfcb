"""Ceilings: the codes of wide bags of which none is within another one, while ever more come."""

from postedbag.base.packs import is_below


class Ceiling:
    """The greatest ones of the bags that came."""

    def __init__(self, packing):
        self._packing = packing
        # By their codes, with the highest bits set, the bags that are held.
        self.codes = {}
        self._roof = []
        # The greatest and the least weight of those that came.
        self._heaviest = -1
        self._lightest = -1

    def holds(self, code):
        """Whether just this bag is held."""
        return code in self.codes

    def covers(self, code, weight):
        """Whether a bag, which has this weight, is within one that is held."""
        if code in self.codes:
            return True
        return weight < self._heaviest and is_below(code, self._roof, self._packing.guard)

    def put(self, code, weight, is_above):
        """Hold a bag, which is within none that is held, and no longer those within it, if there can be some."""
        guard = self._packing.guard
        top = code | guard
        if is_above and self.codes and weight > self._lightest:
            below = [other for other in self.codes if (top - other) & guard == guard]
            for other in below:
                del self.codes[other]
            if below:
                self._roof = [other | guard for other in self.codes]
        self.codes[code] = True
        self._roof.append(top)
        self._heaviest = max(self._heaviest, weight)
        self._lightest = weight if self._lightest < 0 else min(self._lightest, weight)
