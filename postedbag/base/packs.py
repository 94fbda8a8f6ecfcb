"""Packs: wide bags as single numbers, with some bits for each entry."""

from postedbag.base.bags import ANY

# Above the bits of finite entries there is one for ANY, and three more: no sum of bags runs into the next entry.
SPARE = 4


class Packing:
    """How wide bags of one length, whose finite entries are at most a number, are numbers themselves.

    Such a number is a code. The first entry has the lowest bits. ANY stands as more than each finite entry.
    """

    def __init__(self, length, most):
        self.length = length
        self.most = most
        self.shift = most.bit_length()
        self.bits = self.shift + SPARE
        self.ones = sum([1 << (self.bits * at) for at in range(length)])
        # All bits of all entries.
        self.every = (1 << (self.bits * length)) - 1
        # The bits of ANY, and the highest bits, of all entries.
        self.wide = self.ones << self.shift
        self.guard = self.ones << (self.bits - 1)
        # What a code leaves when it is divided by this is the sum of its entries, the weight: it is more for each bag
        # that another one is within.
        self.whole = (1 << self.bits) - 1

    def packed(self, bag):
        """The code of a wide bag."""
        code = 0
        for entry in bag[::-1]:
            code = (code << self.bits) | (1 << self.shift if entry == ANY else entry)
        return code

    def unpacked(self, code):
        """The wide bag of a code."""
        wide = 1 << self.shift
        entries = []
        for _ in range(self.length):
            entry = code & self.whole
            entries.append(ANY if entry == wide else entry)
            code >>= self.bits
        return tuple(entries)

    def entries(self, code):
        """The list of the entries of a bag of which this is the code."""
        found = []
        for _ in range(self.length):
            found.append(code & self.whole)
            code >>= self.bits
        return found

    def recoded(self, code, packing):
        """The code of the wide bag of which a code is told by another packing."""
        return code if self.bits == packing.bits else self.packed(packing.unpacked(code))

    def one(self, at):
        """The code of the bag with one task."""
        return 1 << (self.bits * at)

    def endless(self, at):
        """The code of the wide bag with any number of one task."""
        return 1 << (self.bits * at + self.shift)

    def normal(self, code):
        """The code of the sum of two bags whose codes have been added."""
        wide = (code | code >> 1) & self.wide
        return code & ~self.full(wide) | wide if wide else code

    def full(self, wide):
        """All bits of the entries with some of the bits of ANY."""
        return (wide << SPARE) - (wide >> self.shift)

    def raised(self, less, code):
        """The code with ANY for each entry that is more than the one of a bag within it."""
        grown = code - less
        # What is added fills all bits of an entry but the highest one: this one is set if there was anything.
        more = ((grown + (self.guard - self.ones)) & self.guard) >> (SPARE - 1)
        return code & ~self.full(more) | more

    def highest(self, codes, most):
        """The list of those codes whose bags are within no other ones, or None if there are more than the most."""
        weights = {code: code % self.whole for code in codes}
        heaviest = max(list(weights.values()), default=0)
        # Bags of one weight are not within one another.
        kept = [code for code in weights if weights[code] == heaviest]
        if len(kept) > most:
            return None
        if len(kept) == len(weights):
            return kept
        roof = [code | self.guard for code in kept]
        others = sorted(weights, key=lambda one: -weights[one])[len(kept):]
        for code in others:
            if not is_below(code, roof, self.guard):
                kept.append(code)
                roof.append(code | self.guard)
                if len(kept) > most:
                    return None
        return kept


def is_below(code, roof, guard):
    """Whether the bag of a code is within the one of another code of a list, where the highest bits are set."""
    for other in roof:
        if (other - code) & guard == guard:
            return True
    return False
