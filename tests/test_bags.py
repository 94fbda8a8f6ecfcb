"""[0.17] and stage 2: bags and wide bags."""

import copy
import itertools
import unittest

from postedbag.base import bags
from postedbag.base.bags import ANY, added, greatest, is_bag, is_wide, least, within
from postedbag.errors import InvalidBag
from tests.samples import HUGE, odd_values

# All wide bags of one length with entries that are small, for comparison with the definitions.
PAIRS = list(itertools.product((ANY, 0, 1, 2), repeat=2))


def is_within_by_words(one, other):
    """[0.17], entry by entry."""
    for entry, most in zip(one, other):
        if most == ANY:
            continue
        if entry == ANY or entry > most:
            return False
    return True


class FormsTest(unittest.TestCase):
    def test_any_is_minus_one(self):
        self.assertEqual(ANY, -1)
        self.assertIs(type(bags.ANY), int)

    def test_lengths(self):
        for length in range(9):
            self.assertIs(is_bag((0,) * length), 1 <= length <= 5, length)
            self.assertIs(is_wide((0,) * length), 1 <= length <= 5, length)
            self.assertIs(is_wide((ANY,) * length), 1 <= length <= 5, length)

    def test_entries_at_each_place(self):
        rows = ((0, True, True), (1, True, True), (HUGE, True, True), (-1, False, True), (-2, False, False),
                (-HUGE, False, False), (True, False, False), (False, False, False), (None, False, False),
                ("0", False, False), ((0,), False, False), ([], False, False))
        for length, (entry, bag, wide) in itertools.product(range(1, 6), rows):
            for at in range(length):
                value = (0,) * at + (entry,) + (0,) * (length - at - 1)
                self.assertIs(is_bag(value), bag, value)
                self.assertIs(is_wide(value), wide, value)

    def test_values_of_other_kinds(self):
        for value in [*odd_values(), [0], [0, 1], {0: 0}, "0", b"0", 0, range(2), {0}]:
            self.assertIs(is_bag(value), False, repr(value))
            self.assertIs(is_wide(value), False, repr(value))


class WithinTest(unittest.TestCase):
    def test_any_on_either_side(self):
        self.assertIs(within((ANY,), (ANY,)), True)
        self.assertIs(within((HUGE,), (ANY,)), True)
        self.assertIs(within((0,), (ANY,)), True)
        self.assertIs(within((ANY,), (HUGE,)), False)
        self.assertIs(within((ANY,), (0,)), False)

    def test_numbers(self):
        self.assertIs(within((3, 3), (3, 3)), True)
        self.assertIs(within((2, 3), (3, 3)), True)
        self.assertIs(within((4, 0), (3, 3)), False)
        self.assertIs(within((0, 4), (3, 3)), False)
        self.assertIs(within((HUGE - 1,), (HUGE,)), True)
        self.assertIs(within((HUGE,), (HUGE - 1,)), False)

    def test_as_by_the_words(self):
        for one, other in itertools.product(PAIRS, repeat=2):
            self.assertIs(within(one, other), is_within_by_words(one, other), (one, other))

    def test_five_entries(self):
        self.assertIs(within((0, 1, ANY, 3, 4), (0, 1, ANY, ANY, 4)), True)
        self.assertIs(within((0, 1, ANY, 3, 5), (0, 1, ANY, ANY, 4)), False)


class AddedTest(unittest.TestCase):
    def test_any_on_either_side(self):
        self.assertEqual(added((ANY, 0, ANY, ANY, 3), (0, ANY, ANY, HUGE, 4)), (ANY, ANY, ANY, ANY, 7))
        self.assertEqual(added((ANY,), (1,)), (ANY,))
        self.assertEqual(added((1,), (ANY,)), (ANY,))

    def test_numbers(self):
        self.assertEqual(added((2, 0), (3, 0)), (5, 0))
        self.assertEqual(added((HUGE,), (HUGE,)), (2 * HUGE,))
        for one, other in itertools.product(PAIRS, repeat=2):
            expected = tuple(ANY if ANY in (a, b) else a + b for a, b in zip(one, other))
            self.assertEqual(added(one, other), expected)


class TwoBagsErrorsTest(unittest.TestCase):
    def test_wrong_first_second_and_both(self):
        for call in (within, added):
            for value in [*odd_values(), (), (0,) * 6, (-2,), (True,), (False, 0), [0], [0, 0], [ANY]]:
                for one, other in ((value, (0,)), ((0,), value), (value, value)):
                    with self.assertRaises(InvalidBag, msg=repr((one, other))) as caught:
                        call(one, other)
                    self.assertIs(type(caught.exception), InvalidBag)

    def test_unlike_lengths(self):
        for call in (within, added):
            for one, other in itertools.permutations(range(1, 6), 2):
                for entry in (0, ANY):
                    with self.assertRaises(InvalidBag):
                        call((entry,) * one, (entry,) * other)

    def test_lists_are_not_changed(self):
        one, other = [0, 1], [2]
        for call in (within, added):
            with self.assertRaises(InvalidBag):
                call(one, other)
        self.assertEqual((one, other), ([0, 1], [2]))


class ExtremesTest(unittest.TestCase):
    def test_none_at_all(self):
        self.assertEqual(greatest(()), ())
        self.assertEqual(least(()), ())

    def test_one_and_equal_ones(self):
        for call in (greatest, least):
            for bag in ((0,), (ANY,), (1, ANY), (HUGE,) * 5):
                self.assertEqual(call((bag,)), (bag,))
                self.assertEqual(call((bag, bag, bag)), (bag,))

    def test_ones_with_any(self):
        self.assertEqual(greatest(((ANY,), (HUGE,))), ((ANY,),))
        self.assertEqual(least(((ANY,), (HUGE,))), ((HUGE,),))
        self.assertEqual(greatest(((ANY, 0), (0, ANY), (ANY, ANY))), ((ANY, ANY),))
        self.assertEqual(least(((ANY, 0), (0, ANY), (ANY, ANY))), ((ANY, 0), (0, ANY)))
        self.assertEqual(greatest(((ANY, 1), (0, 2), (5, 1))), ((ANY, 1), (0, 2)))
        self.assertEqual(least(((ANY, 1), (0, 2), (5, 1))), ((0, 2), (5, 1)))

    def test_the_result_is_ascending_in_any_order_of_what_is_passed(self):
        some = ((3, 0), (0, 3), (ANY, 0), (2, 1), (0, 3))
        for row in itertools.permutations(some):
            self.assertEqual(greatest(row), ((ANY, 0), (0, 3), (2, 1)))
            self.assertEqual(least(row), ((0, 3), (2, 1), (3, 0)))

    def test_as_by_the_words(self):
        for many in (1, 2, 3):
            for row in itertools.product(PAIRS[::many], repeat=many):
                most = sorted({b for b in row if not any(b != c and is_within_by_words(b, c) for c in row)})
                few = sorted({b for b in row if not any(b != c and is_within_by_words(c, b) for c in row)})
                self.assertEqual(greatest(row), tuple(most), row)
                self.assertEqual(least(row), tuple(few), row)
        self.assertEqual(greatest(tuple(PAIRS)), ((ANY, ANY),))
        self.assertEqual(least(tuple(PAIRS)), ((0, 0),))

    def test_errors(self):
        wrong = [*odd_values(), (), (0,) * 6, (-2,), (True,), (0, False), [0], [0, 0], ((0, 0),)]
        rows = [value for value in odd_values() if not value == ()]
        for value in wrong:
            rows.extend([(value,), (value, (0, 0)), ((0, 0), value), ((0, 0), value, (0, 0))])
        rows.extend([[], [(0,)], {}, {(0,): 0}, {(0,)}, None, "", (0,), (ANY,), ((0,), (0, 0)), ((0, 0), (0,))])
        for row in rows:
            for call in (greatest, least):
                with self.assertRaises(InvalidBag, msg=repr(row)) as caught:
                    call(row)
                self.assertIs(type(caught.exception), InvalidBag)

    def test_what_is_passed_is_not_changed(self):
        row = [(1, 0), (0, 1), (0, 1)]
        kept = copy.deepcopy(row)
        for call in (greatest, least):
            with self.assertRaises(InvalidBag):
                call(row)
        self.assertEqual(row, kept)


if __name__ == "__main__":
    unittest.main()
