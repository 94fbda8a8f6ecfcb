"""Lids: the codes of wide bags that stay as they are, for those who ask what is within one of them."""


class Lid:
    """Some wide bags, the heaviest ones first."""

    def __init__(self, packing, codes):
        self._packing = packing
        self._codes = {code: True for code in codes}
        self._rows = sorted([(code % packing.whole, code | packing.guard) for code in codes], reverse=True)

    def covers(self, code):
        """Whether the bag of a code is within one of the bags."""
        if code in self._codes:
            return True
        guard = self._packing.guard
        weight = code % self._packing.whole
        for other, top in self._rows:
            # A bag is within others that are heavier only.
            if other <= weight:
                return False
            if (top - code) & guard == guard:
                return True
        return False
