"""Roofs: many wide bags at once, of which none is within another one."""

from postedbag.base.bags import ANY

# So many bags come into a block, and so many entries are remembered for each place of its bags.
BLOCK = 256
MOST_ENTRIES = 200


class Block:
    """Some of the bags of a roof, with a bit for each of them."""

    def __init__(self, length):
        self.bags = []
        # The bits of the bags that are held.
        self.bits = 0
        # For each place of the bags: by an entry the bits of all bags that have at least this entry there.
        self._known = [{} for _ in range(length)]

    def covers(self, bag):
        """Whether a wide bag is within one that is held."""
        bits = self.bits
        for place, entry in enumerate(bag):
            if bits == 0:
                return False
            if entry != 0:
                bits &= self._at_least(place, entry)
        return bits != 0

    def put(self, bag):
        """Hold one more bag."""
        bit = 1 << len(self.bags)
        self.bags.append(bag)
        self.bits |= bit
        for place, entry in enumerate(bag):
            known = self._known[place]
            small = {} if len(known) > MOST_ENTRIES else known
            self._known[place] = {
                least: bits | bit if reaches(entry, least) else bits
                for least, bits in small.items()
            }

    def below(self, bag):
        """The bits of all bags within a wide bag, also of those that are not held any more."""
        bits = (1 << len(self.bags)) - 1
        for place, entry in enumerate(bag):
            if bits and entry != ANY:
                bits &= ~self._at_least(place, entry + 1)
        return bits

    def drop(self, bits):
        """Hold the bags with these bits no longer, and tell how many of them were held."""
        dropped = self.bits & bits
        self.bits &= ~bits
        many = 0
        while dropped:
            dropped &= dropped - 1
            many += 1
        return many

    def _at_least(self, place, least):
        """The bits of all bags that have at least an entry at a place."""
        known = self._known[place]
        if least not in known:
            entries = [bag[place] for bag in self.bags[::-1]]
            if least == ANY:
                signs = ["1" if entry == ANY else "0" for entry in entries]
            else:
                signs = ["1" if entry >= least or entry == ANY else "0" for entry in entries]
            known[least] = int("".join(["0", *signs]), 2)
        return known[least]


class Roof:
    """Wide bags of one length, of which none is within another one."""

    def __init__(self):
        self._blocks = []
        self._many = 0

    def size(self):
        """How many bags are held."""
        return self._many

    def held(self):
        """The list of the bags that are held, in the order in which they came."""
        return [bag for block in self._blocks for at, bag in enumerate(block.bags) if (block.bits >> at) & 1]

    def holds(self, index):
        """Whether the bag that came at an index is held."""
        return (self._blocks[index // BLOCK].bits >> (index % BLOCK)) & 1 == 1

    def covers(self, bag):
        """Whether a wide bag is within one that is held."""
        for block in reversed(list(self._blocks)):
            if block.bits and block.covers(bag):
                return True
        return False

    def has_below(self, bag):
        """Whether any bag that came, held or not, is within a wide bag."""
        for block in self._blocks:
            if block.below(bag):
                return True
        return False

    def put(self, bag):
        """Hold a wide bag, no longer those within it, and tell its index; it is within none that is held."""
        for block in self._blocks:
            if block.bits:
                self._many -= block.drop(block.below(bag))
        if not self._blocks or len(self._blocks[-1].bags) == BLOCK:
            self._blocks.append(Block(len(bag)))
        self._blocks[-1].put(bag)
        self._many += 1
        return (len(self._blocks) - 1) * BLOCK + len(self._blocks[-1].bags) - 1


def reaches(entry, least):
    """Whether an entry of a wide bag is at least another one."""
    return entry == ANY or (least != ANY and entry >= least)


def roof_of(bags):
    """The roof of those bags that are within no other ones."""
    roof = Roof()
    for bag in bags:
        if not roof.covers(bag):
            roof.put(bag)
    return roof


def greatest_of(bags, most):
    """The list of those bags that are within no other ones, or None if there are more than the most."""
    roof = Roof()
    # In this order no bag is within a later one, so what has been put stays.
    for bag in sorted(bags, key=weight, reverse=True):
        if not roof.covers(bag):
            if roof.size() == most:
                return None
            roof.put(bag)
    return roof.held()


def weight(bag):
    """How often a wide bag has ANY, and the sum of its entries: more for each bag that it is within."""
    return (bag.count(ANY), sum(bag))
