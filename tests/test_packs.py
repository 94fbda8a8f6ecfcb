"""Codes of wide bags, and what is kept of many of them: all as it is with the bags themselves."""

import itertools
import random
import unittest

from postedbag.base.bags import ANY, added, greatest, least, within
from postedbag.base.ceilings import Ceiling
from postedbag.base.floors import MOST_LATE, Floor, Shelf
from postedbag.base.lids import Lid
from postedbag.base.packs import Packing, is_below


def some_bags(source, length, most, many, wide=0.3):
    """So many wide bags."""
    return [
        tuple(ANY if source.random() < wide else source.randint(0, most) for _ in range(length)) for _ in range(many)
    ]


class PackingTest(unittest.TestCase):
    def test_there_and_back(self):
        for length, most in itertools.product(range(1, 6), (0, 1, 2, 255, 10 ** 40)):
            packing = Packing(length, most)
            for bag in itertools.product((0, 1, most, ANY), repeat=length):
                bag = tuple(min(entry, most) for entry in bag)
                code = packing.packed(bag)
                self.assertEqual(packing.unpacked(code), bag)
                other = Packing(length, most * 1000 + 7)
                self.assertEqual(packing.recoded(other.packed(bag), other), code)
                if ANY not in bag:
                    self.assertEqual(packing.entries(code), list(bag))

    def test_sums_and_order(self):
        source = random.Random(1)
        for length in range(1, 6):
            packing = Packing(length, 18)
            for one, other in zip(some_bags(source, length, 9, 200), some_bags(source, length, 9, 200)):
                codes = packing.packed(one), packing.packed(other)
                self.assertEqual(packing.unpacked(packing.normal(sum(codes))), added(one, other))
                below = is_below(codes[0], [codes[1] | packing.guard], packing.guard)
                self.assertIs(below, within(one, other))
                if below and one != other:
                    self.assertLess(codes[0] % packing.whole, codes[1] % packing.whole)

    def test_what_is_raised(self):
        source = random.Random(2)
        packing = Packing(3, 9)
        for one, other in zip(some_bags(source, 3, 2, 900), some_bags(source, 3, 2, 900)):
            if within(one, other):
                raised = tuple(ANY if few != many else many for few, many in zip(one, other))
                self.assertEqual(packing.unpacked(packing.raised(packing.packed(one), packing.packed(other))), raised)

    def test_single_tasks(self):
        packing = Packing(4, 7)
        self.assertEqual(packing.unpacked(packing.one(2)), (0, 0, 1, 0))
        self.assertEqual(packing.unpacked(packing.endless(3)), (0, 0, 0, ANY))
        self.assertEqual(packing.full(packing.endless(1)), packing.whole << packing.bits)

    def test_the_highest(self):
        source = random.Random(3)
        packing = Packing(3, 9)
        for many in (0, 1, 5, 60):
            for wide in (0, 0.3):
                bags = some_bags(source, 3, 9, many, wide)
                found = packing.highest([packing.packed(bag) for bag in bags], 99)
                kept = greatest(tuple(bags))
                self.assertEqual(tuple(sorted(packing.unpacked(code) for code in found)), kept)
                self.assertIsNotNone(packing.highest([packing.packed(bag) for bag in bags], len(kept)))
                if kept:
                    self.assertIsNone(packing.highest([packing.packed(bag) for bag in bags], len(kept) - 1))


class CeilingTest(unittest.TestCase):
    def test_as_with_bags(self):
        source = random.Random(4)
        for wide, most in itertools.product((0, 0.2), (1, 3, 9)):
            packing = Packing(3, most)
            ceiling, held = Ceiling(packing), []
            for bag in some_bags(source, 3, most, 200, wide):
                code = packing.packed(bag)
                covered = any(within(bag, other) for other in held)
                self.assertIs(ceiling.covers(code, code % packing.whole), covered)
                if not covered:
                    ceiling.put(code, code % packing.whole, any(within(other, bag) for other in held))
                    held = [other for other in held if not within(other, bag)] + [bag]
                self.assertEqual(sorted(packing.unpacked(one) for one in ceiling.codes), sorted(held))
                self.assertTrue(all(ceiling.holds(packing.packed(other)) for other in held))


class LidTest(unittest.TestCase):
    def test_as_with_bags(self):
        source = random.Random(7)
        for many in (0, 1, 6, 40):
            packing = Packing(3, 9)
            held = some_bags(source, 3, 9, many)
            lid = Lid(packing, [packing.packed(bag) for bag in held])
            for bag in some_bags(source, 3, 9, 300) + held:
                self.assertIs(lid.covers(packing.packed(bag)), any(within(bag, other) for other in held))


class FloorTest(unittest.TestCase):
    def test_as_with_bags(self):
        source = random.Random(5)
        for length, most, many in ((1, 50, 60), (2, 40, 300), (3, 30, 900), (5, 4, 900)):
            packing = Packing(length, most)
            floor, came = Floor(packing), []
            for bag in some_bags(source, length, most, many, 0):
                code = packing.packed(bag)
                covered = any(within(other, bag) for other in came)
                self.assertIs(floor.covers(code, code % packing.whole), covered)
                if not covered:
                    floor.put(code, code % packing.whole)
                    came.append(bag)
            kept = sorted(packing.unpacked(code) for code in floor.least())
            self.assertEqual(tuple(kept), least(tuple(came)))

    def test_many_bags_of_one_weight(self):
        packing = Packing(3, 99)
        floor = Floor(packing)
        bags = [(one, other, 60 - one - other) for one in range(60) for other in range(60 - one)]
        for bag in bags:
            floor.put(packing.packed(bag), 60)
        self.assertGreater(len(bags), MOST_LATE)
        self.assertEqual(len(floor.least()), len(bags))
        for bag, covered in (((30, 20, 10), True), ((30, 20, 11), True), ((31, 19, 9), False), ((0, 0, 99), True)):
            self.assertIs(floor.covers(packing.packed(bag), sum(bag)), covered)

    def test_shelves(self):
        source = random.Random(6)
        shelf, came = Shelf(3), []
        self.assertFalse(shelf.covers((9, 9, 9)))
        for _ in range(6):
            bags = some_bags(source, 3, 40, 30, 0)
            shelf.put(bags)
            came.extend(bags)
            for bag in some_bags(source, 3, 40, 60, 0):
                self.assertIs(shelf.covers(bag), any(within(other, bag) for other in came))


if __name__ == "__main__":
    unittest.main()
