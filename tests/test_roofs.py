"""Roofs: many wide bags at once."""

import random
import unittest

from postedbag.base.bags import ANY, greatest
from postedbag.base.roofs import BLOCK, Place, Roof, greatest_of
from tests.words import is_below


def bags(seed, many, most):
    """So many wide bags, with entries up to the most."""
    source = random.Random(seed)
    return [tuple(ANY if source.random() < 0.1 else source.randrange(most) for _ in range(3)) for _ in range(many)]


class PlaceTest(unittest.TestCase):
    def test_against_single_entries(self):
        for seed in range(40):
            source = random.Random(seed)
            place, came = Place(), []
            for at in range(30):
                entry = source.choice((ANY, -2, -9, 0, 1, 10 ** 40, source.randrange(5 + 5 * seed)))
                place.put(entry, 1 << at)
                came.append(entry)
                for least in (ANY, -9, -8, -2, 0, 1, source.randrange(5 + 5 * seed), 10 ** 40, 10 ** 40 + 1):
                    bits = [one == ANY or (least != ANY and one >= least) for one in came]
                    self.assertEqual(place.at_least(least), sum(1 << index for index, bit in enumerate(bits) if bit))


class RoofTest(unittest.TestCase):
    def check(self, rows):
        roof, held = Roof(), []
        for bag in rows:
            covered = any(is_below(bag, other) for other in held)
            self.assertIs(roof.covers(bag), covered)
            if not covered:
                held = [other for other in held if not is_below(other, bag)] + [bag]
                roof.put(bag)
                self.assertEqual(roof.size(), len(held))
        self.assertEqual(roof.held(), held)

    def test_against_single_bags(self):
        self.check([])
        for seed in range(30):
            self.check(bags(seed, 60, 4 + 5 * seed))

    def test_more_than_a_block(self):
        rows = [(at, 3 * BLOCK - at, at % 2) for at in range(3 * BLOCK)]
        self.check(rows)
        self.check(rows + [(ANY, 5, 1), (7, ANY, 1), (ANY, ANY, 0), (ANY, ANY, ANY)])

    def test_bags_that_grow(self):
        self.check([(at, at, 0) for at in range(2 * BLOCK)])

    def test_entries_below_any(self):
        # The searches put their numbers below ANY, so that less is more.
        roof = Roof()
        for bag in ((-5, -2), (-2, -5)):
            roof.put(bag)
        for one in range(-7, -1):
            for other in range(-7, -1):
                self.assertIs(roof.covers((one, other)), one <= -5 or other <= -5)
        roof.put((-2, -2))
        self.assertEqual(roof.held(), [(-2, -2)])

    def test_the_greatest(self):
        for seed in range(40):
            rows = bags(seed, 40, 4 + seed)
            kept = greatest(tuple(rows))
            self.assertEqual(tuple(sorted(greatest_of({bag: 0 for bag in rows}, len(kept)))), kept)
            self.assertIsNone(greatest_of({bag: 0 for bag in rows}, len(kept) - 1))
        self.assertEqual(greatest_of({}, 0), [])


if __name__ == "__main__":
    unittest.main()
