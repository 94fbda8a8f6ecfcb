"""Roofs: many wide bags at once, of which none is within another one."""

from postedbag.base.bags import ANY

# So many bags come into a block.
BLOCK = 256


class Place:
    """The entries that some bags have at one place, with a bit for each bag."""

    def __init__(self):
        # The entries but ANY, ascending, and for each of them the bits of all bags that have at least this entry.
        self._entries = []
        self._bits = []
        # The bits of the bags that have ANY.
        self._wide = 0

    def at_least(self, least):
        """The bits of all bags that have at least an entry."""
        at = len(self._entries) if least == ANY else self._first(least)
        return self._bits[at] if at < len(self._bits) else self._wide

    def put(self, entry, bit):
        """Take in the entry of one more bag."""
        at = len(self._entries)
        if entry == ANY:
            self._wide |= bit
        else:
            at = self._first(entry)
            if at == len(self._entries) or self._entries[at] != entry:
                self._bits.insert(at, self.at_least(entry))
                self._entries.insert(at, entry)
            at += 1
        self._bits = [bits | bit for bits in self._bits[:at]] + self._bits[at:]

    def _first(self, least):
        """The index of the first entry that is not less than another one."""
        low, high = 0, len(self._entries)
        while low < high:
            between = (low + high) // 2
            if self._entries[between] < least:
                low = between + 1
            else:
                high = between
        return low


class Block:
    """Some of the bags of a roof, with a bit for each of them."""

    def __init__(self, length):
        self.bags = []
        # The bits of the bags that are held.
        self.bits = 0
        self._places = [Place() for _ in range(length)]

    def covers(self, bag):
        """Whether a wide bag is within one that is held."""
        bits = self.bits
        for place, entry in zip(self._places, bag):
            if bits == 0:
                return False
            if entry != 0:
                bits &= place.at_least(entry)
        return bits != 0

    def put(self, bag):
        """Hold one more bag."""
        bit = 1 << len(self.bags)
        self.bags.append(bag)
        self.bits |= bit
        for place, entry in zip(self._places, bag):
            place.put(entry, bit)

    def below(self, bag):
        """The bits of all bags within a wide bag, also of those that are not held any more."""
        bits = (1 << len(self.bags)) - 1
        for place, entry in zip(self._places, bag):
            if bits and entry != ANY:
                bits &= ~place.at_least(entry + 1)
        return bits

    def drop(self, bits):
        """Hold the bags with these bits no longer, and tell how many of them were held."""
        dropped = self.bits & bits
        self.bits &= ~bits
        many = 0
        while dropped:
            dropped &= dropped - 1
            many += 1
        return many


class Roof:
    """Wide bags of one length, of which none is within another one."""

    def __init__(self):
        self._blocks = []
        self._many = 0

    def size(self):
        """How many bags are held."""
        return self._many

    def held(self):
        """The list of the bags that are held, in the order in which they came."""
        return [bag for block in self._blocks for at, bag in enumerate(block.bags) if (block.bits >> at) & 1]

    def covers(self, bag):
        """Whether a wide bag is within one that is held."""
        for block in reversed(list(self._blocks)):
            if block.bits and block.covers(bag):
                return True
        return False

    def put(self, bag):
        """Hold a wide bag, which is within none that is held, and no longer those within it."""
        for block in self._blocks:
            if block.bits:
                self._many -= block.drop(block.below(bag))
        if not self._blocks or len(self._blocks[-1].bags) == BLOCK:
            self._blocks.append(Block(len(bag)))
        self._blocks[-1].put(bag)
        self._many += 1


def greatest_of(bags, most):
    """The list of those bags that are within no other ones, or None if there are more than the most."""
    roof = Roof()
    # In this order no bag is within a later one, so what has been put stays.
    for bag in sorted(bags, key=weight, reverse=True):
        if not roof.covers(bag):
            if roof.size() == most:
                return None
            roof.put(bag)
    return roof.held()


def weight(bag):
    """How often a wide bag has ANY, and the sum of its entries: more for each bag that it is within."""
    return (bag.count(ANY), sum(bag))
