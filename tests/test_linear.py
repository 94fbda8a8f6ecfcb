"""Linear goals: the greatest ones, in whole numbers."""

import itertools
import random
import unittest
from fractions import Fraction

from postedbag.base.linear import good_point, tableau_of


def solution(rows, values):
    """The only point at which rows have these values, or None."""
    size = len(rows)
    table = [[Fraction(entry) for entry in row] + [Fraction(value)] for row, value in zip(rows, values)]
    for at in range(size):
        pivot = next((row for row in range(at, size) if table[row][at]), None)
        if pivot is None:
            return None
        table[at], table[pivot] = table[pivot], table[at]
        table[at] = [entry / table[at][at] for entry in table[at]]
        for row in range(size):
            if row != at:
                table[row] = [entry - table[row][at] * other for entry, other in zip(table[row], table[at])]
    return [row[-1] for row in table]


def greatest_of_corners(rows, limits, goal):
    """The greatest goal of all corners of what the rows allow."""
    size = len(goal)
    every = rows + [[-int(at == index) for index in range(size)] for at in range(size)]
    bounds = limits + [0] * size
    found = []
    for chosen in itertools.combinations(range(len(every)), size):
        point = solution([every[at] for at in chosen], [bounds[at] for at in chosen])
        if point is not None and all(
            sum(entry * part for entry, part in zip(row, point)) <= bound for row, bound in zip(every, bounds)
        ):
            found.append(sum(part * entry for part, entry in zip(point, goal)))
    return max(found)


class LinearTest(unittest.TestCase):
    def test_against_all_corners(self):
        source = random.Random(5)
        for _ in range(300):
            size = source.randint(1, 3)
            rows = [[source.randint(-3, 5) for _ in range(size)] for _ in range(source.randint(1, 4))]
            limits = [source.choice((0, 0, 1, 5, 9)) for _ in rows]
            rows += [[int(at == index) for index in range(size)] for at in range(size)]
            limits += [source.randint(0, 20) for _ in range(size)]
            goal = [source.randint(-4, 6) for _ in range(size)]
            parts, whole = good_point(rows, limits, goal, 1000)
            self.assertGreater(whole, 0)
            self.assertGreaterEqual(min(parts), 0)
            for row, limit in zip(rows, limits):
                self.assertLessEqual(sum(entry * part for entry, part in zip(row, parts)), limit * whole)
            told = Fraction(sum(part * entry for part, entry in zip(parts, goal)), whole)
            self.assertEqual(told, greatest_of_corners(rows, limits, goal))

    def test_few_turns(self):
        rows, limits, goal = [[1, 1], [1, 0], [0, 1]], [4, 3, 2], [3, 2]
        self.assertEqual(good_point(rows, limits, goal, 9), ([3, 1], 1))
        self.assertEqual(good_point(rows, limits, goal, 1), ([3, 0], 1))
        self.assertEqual(good_point(rows, limits, goal, 0), ([0, 0], 1))

    def test_nothing_is_changed(self):
        rows, limits, goal = [[2, 1], [1, 3]], [7, 9], [1, 1]
        self.assertEqual(good_point(rows, limits, goal, 9), ([12, 11], 5))
        self.assertEqual((rows, limits, goal), ([[2, 1], [1, 3]], [7, 9], [1, 1]))


def least_of_shares(rows, limits, goal, most):
    """The least sum of multiples of the limits by whole shares up to the most that make at least the goal, or None."""
    found = [
        sum(share * limit for share, limit in zip(shares, limits))
        for shares in itertools.product(range(most + 1), repeat=len(rows))
        if all(sum(share * row[at] for share, row in zip(shares, rows)) >= goal[at] for at in range(len(goal)))
    ]
    return min(found, default=None)


def question(source):
    """Rows, limits and a goal."""
    size = source.randint(1, 3)
    rows = [[source.randint(-2, 4) for _ in range(size)] for _ in range(source.randint(1, 4))]
    return rows, [source.choice((0, 1, 1, 1, 2)) for _ in rows], [source.randint(-3, 7) for _ in range(size)]


class SharesTest(unittest.TestCase):
    def check_shares(self, rows, limits, goal, tableau):
        self.assertFalse(tableau.can_grow())
        shares, whole = tableau.shares(len(goal))
        self.assertTrue(all(share > 0 for share in shares.values()))
        for at, needed in enumerate(goal):
            self.assertGreaterEqual(sum(share * rows[row][at] for row, share in shares.items()), needed * whole)
        told = Fraction(sum(share * limits[row] for row, share in shares.items()), whole)
        self.assertTrue(told <= tableau.least() < told + 1)

    def test_least_shares(self):
        ends = []
        for seed in range(400):
            rows, limits, goal = question(random.Random(seed))
            tableau = tableau_of(rows, limits, goal)
            ends.append(tableau.grow(100))
            if ends[-1]:
                self.check_shares(rows, limits, goal, tableau)
            else:
                self.assertIsNone(least_of_shares(rows, limits, goal, 5))
        self.assertTrue(60 < ends.count(False) < 340)

    def test_other_goals(self):
        for seed in range(200):
            source = random.Random(seed)
            rows, limits, goal = question(source)
            tableau = tableau_of(rows, limits, [0] * len(goal))
            for _ in range(4):
                goal = [source.randint(-3, 7) for _ in goal]
                tableau.aim(goal)
                fresh = tableau_of(rows, limits, goal)
                grows = fresh.grow(100)
                self.assertEqual(tableau.grow(100), grows)
                if not grows:
                    break
                self.assertEqual(tableau.least(), fresh.least())
                self.check_shares(rows, limits, goal, tableau)

    def test_whole_shares_are_not_left_out(self):
        cuts = 0
        for seed in range(300):
            rows, limits, goal = question(random.Random(seed))
            least = least_of_shares(rows, limits, goal, 6)
            tableau = tableau_of(rows, limits, goal)
            for _ in range(4):
                if not tableau.grow(100):
                    self.assertIsNone(least)
                    break
                self.assertTrue(least is None or tableau.least() <= least)
                shares, whole = tableau.shares(len(goal))
                if all(share % whole == 0 for share in shares.values()):
                    break
                told = Fraction(sum(share * limits[row] for row, share in shares.items()), whole)
                tableau = tableau.rounded()
                cuts += 1
                # What was found is left out.
                self.assertTrue(tableau.can_grow())
                self.assertLessEqual(told, tableau.least())
        self.assertGreater(cuts, 60)

    def test_bounded_shares(self):
        found = []
        for seed in range(300):
            source = random.Random(seed)
            rows, limits, goal = question(source)
            tableau = tableau_of(rows, limits, goal)
            if not tableau.grow(100):
                continue
            some = [at for at in range(len(rows)) if source.random() < 0.5]
            many, sign = source.randint(0, 2), source.choice((1, -1))
            other = tableau.bounded(len(goal), some, sign, many)
            # The condition is one more column: the rows that count in it, with the number as the goal.
            wider = [[*row, sign * (at in some)] for at, row in enumerate(rows)]
            fresh = tableau_of(wider, limits, [*goal, sign * many])
            grows = fresh.grow(100)
            self.assertEqual(other.grow(100), grows)
            found.append(grows)
            if grows:
                self.assertEqual(other.least(), fresh.least())
                shares, whole = other.shares(len(goal))
                told = sum(shares.get(at, 0) for at in some)
                self.assertTrue(told >= many * whole if sign == 1 else told <= many * whole)
            # The other corner is not changed.
            self.check_shares(rows, limits, goal, tableau)
        self.assertTrue(found.count(True) > 80 and found.count(False) > 20)

    def test_known_ones(self):
        # Two kinds of coins, of 3 and of 5, are to make 7: fewest coins, and then whole ones.
        tableau = tableau_of([[3], [5]], [1, 1], [7])
        self.assertTrue(tableau.grow(9))
        self.assertEqual((tableau.shares(1), tableau.least()), (({1: 7}, 5), 2))
        tableau = tableau.rounded()
        self.assertTrue(tableau.grow(9))
        self.assertEqual(tableau.least(), 2)
        self.assertFalse(tableau.bounded(1, [0, 1], -1, 1).grow(9))
        self.assertTrue(tableau.bounded(1, [1], -1, 0).grow(9))

    def test_it_ends_where_corners_are_met_twice(self):
        # With the column that grows most at first each time these corners would be met again and again.
        rows = [[1, -11, -5, 18], [1, -3, -1, 2], [1, 0, 0, 0]]
        tableau = tableau_of(rows, [0, 0, 1], [10, -57, -9, -24])
        self.assertTrue(tableau.grow(50))
        self.assertFalse(tableau.can_grow())
        self.assertEqual(tableau.least(), 1)


if __name__ == "__main__":
    unittest.main()
