"""Linear goals: the greatest ones, in whole numbers."""

import itertools
import random
import unittest
from fractions import Fraction

from postedbag.base.linear import good_point


def solution(rows, values):
    """The only point at which rows have these values, or None."""
    size = len(rows)
    table = [[Fraction(entry) for entry in row] + [Fraction(value)] for row, value in zip(rows, values)]
    for at in range(size):
        pivot = next((row for row in range(at, size) if table[row][at]), None)
        if pivot is None:
            return None
        table[at], table[pivot] = table[pivot], table[at]
        table[at] = [entry / table[at][at] for entry in table[at]]
        for row in range(size):
            if row != at:
                table[row] = [entry - table[row][at] * other for entry, other in zip(table[row], table[at])]
    return [row[-1] for row in table]


def greatest_of_corners(rows, limits, goal):
    """The greatest goal of all corners of what the rows allow."""
    size = len(goal)
    every = rows + [[-int(at == index) for index in range(size)] for at in range(size)]
    bounds = limits + [0] * size
    found = []
    for chosen in itertools.combinations(range(len(every)), size):
        point = solution([every[at] for at in chosen], [bounds[at] for at in chosen])
        if point is not None and all(
            sum(entry * part for entry, part in zip(row, point)) <= bound for row, bound in zip(every, bounds)
        ):
            found.append(sum(part * entry for part, entry in zip(point, goal)))
    return max(found)


class LinearTest(unittest.TestCase):
    def test_against_all_corners(self):
        source = random.Random(5)
        for _ in range(300):
            size = source.randint(1, 3)
            rows = [[source.randint(-3, 5) for _ in range(size)] for _ in range(source.randint(1, 4))]
            limits = [source.choice((0, 0, 1, 5, 9)) for _ in rows]
            rows += [[int(at == index) for index in range(size)] for at in range(size)]
            limits += [source.randint(0, 20) for _ in range(size)]
            goal = [source.randint(-4, 6) for _ in range(size)]
            parts, whole = good_point(rows, limits, goal, 1000)
            self.assertGreater(whole, 0)
            self.assertGreaterEqual(min(parts), 0)
            for row, limit in zip(rows, limits):
                self.assertLessEqual(sum(entry * part for entry, part in zip(row, parts)), limit * whole)
            told = Fraction(sum(part * entry for part, entry in zip(parts, goal)), whole)
            self.assertEqual(told, greatest_of_corners(rows, limits, goal))

    def test_few_turns(self):
        rows, limits, goal = [[1, 1], [1, 0], [0, 1]], [4, 3, 2], [3, 2]
        self.assertEqual(good_point(rows, limits, goal, 9), ([3, 1], 1))
        self.assertEqual(good_point(rows, limits, goal, 1), ([3, 0], 1))
        self.assertEqual(good_point(rows, limits, goal, 0), ([0, 0], 1))

    def test_nothing_is_changed(self):
        rows, limits, goal = [[2, 1], [1, 3]], [7, 9], [1, 1]
        self.assertEqual(good_point(rows, limits, goal, 9), ([12, 11], 5))
        self.assertEqual((rows, limits, goal), ([[2, 1], [1, 3]], [7, 9], [1, 1]))


if __name__ == "__main__":
    unittest.main()
