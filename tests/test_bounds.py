"""How many takes are needed at least: bounds, and what they are made of."""

import random
import unittest

from postedbag.plan.bounds import Bounds
from postedbag.plan.joins import are_joined, can_be_made, homes_of, reached, stays
from postedbag.base.bags import ANY
from postedbag.base.programs import Procedure, Program
from postedbag.know.tables import table_of
from postedbag.plan.possible import merged, possible_takes, possible_ways
from postedbag.plan.search import Search, length_of, raised_by_rounds
from postedbag.plan.tops import Tops
from tests.randoms import loose, onward
from tests.samples import DOOR, JOBS
from tests.test_covers import GROW, random_question
from tests.test_gains import MANY
from tests.test_tops import gains_of_tasks, quiet
from tests.words import is_below, takes_needed, takes_of

FAR = 10 ** 4


def bounds_of(program, takes, end, known=None):
    """The bounds for some takes."""
    return Bounds(program, takes, known or (False,) * len(program), end, FAR)


def runs_on(program, takes, counts, mode, bag, end):
    """Whether takes, made so often in some order, lead from a mode and a bag to an end."""
    met = {(mode, bag, tuple(sorted(counts.items())))}
    waiting = list(met)
    while waiting:
        mode, bag, left = waiting.pop()
        if not left:
            if mode == end[0] and is_below(end[1], bag):
                return True
            continue
        for index, _ in left:
            begin, task, behind, gain = takes[index]
            if begin != mode or bag[task] == 0:
                continue
            rest = [many - (at == task and many != ANY) for at, many in enumerate(bag)]
            more = tuple(ANY if ANY in pair else sum(pair) for pair in zip(rest, gain))
            fewer = tuple((one, many - (one == index)) for one, many in left if one != index or many > 1)
            if (behind, more, fewer) not in met:
                met.add((behind, more, fewer))
                waiting.append((behind, more, fewer))
    return False


class BoundsTest(unittest.TestCase):
    def test_no_row_is_shorter(self):
        reasons = []
        for seed in range(120):
            program = onward(seed, modes=3) if seed % 2 else loose(seed, modes=3)
            takes = [(mode, at, end, gain) for at, mode, end, gain in takes_of(program, gains_of_tasks(program))]
            end = random_question(program, seed)
            bounds = bounds_of(program, takes, end)
            for start in program.starts:
                alone = program.with_starts((start,))
                needed = takes_needed(alone, [(take[1], take[0], *take[2:]) for take in takes], *end, 6)
                least, counts = bounds.least(start, program.begin)
                if needed is None or needed == "more":
                    self.assertTrue(needed == "more" or least != 0)
                else:
                    self.assertLessEqual(least, needed)
                    reasons.append(least == needed)
                if least is None:
                    self.assertIsNone(counts)
                    reasons.append("none")
                elif counts is not None:
                    self.assertEqual(sum(counts.values()), least)
                    self.assertTrue(all(many > 0 for many in counts.values()))
                    self.assertTrue(are_joined(program, [takes[at] for at in counts], start, program.begin))
                    if needed == least:
                        reasons.append(("runs", runs_on(program, takes, counts, start, program.begin, end)))
        self.assertGreater(reasons.count(True), 8 * reasons.count(False))
        self.assertGreater(reasons.count(("runs", True)), 8 * reasons.count(("runs", False)))
        self.assertGreater(reasons.count("none"), 5)

    def test_merged_takes_need_no_more(self):
        for seed in range(60):
            program = onward(seed, modes=3) if seed % 2 else loose(seed, modes=3)
            takes = possible_takes(program, table_of(program))
            end = random_question(program, seed)
            for start in program.starts:
                least = bounds_of(program, takes, end).least(start, program.begin)[0]
                fewer = bounds_of(program, merged(takes), end).least(start, program.begin)[0]
                self.assertTrue(least is None or fewer is not None and fewer <= least)

    def test_tasks_that_are_known_do_not_count(self):
        takes = possible_takes(GROW, table_of(GROW))
        bounds = bounds_of(GROW, takes, (0, (0, 1, 9, 9)), (False, False, True, False))
        self.assertEqual(bounds.least(0, (1, 0, ANY, 0))[0], 10)
        self.assertEqual(bounds.least(0, (0, 1, ANY, 0))[0], 9)
        self.assertEqual(bounds.least(0, (0, 0, ANY, 5)), (None, None))
        bounds = bounds_of(GROW, takes, (0, (0, 1, 9, 9)))
        self.assertEqual(bounds.least(0, (1, 0, 0, 0))[0], 19)
        self.assertEqual(bounds.least(0, (0, 0, 0, 5)), (None, None))
        self.assertEqual(bounds.least(0, (0, 1, 9, 9)), (0, {}))

    def test_whole_numbers(self):
        # Of each p come two q, so that for three of them two p are needed.
        double = Procedure("p", 3, ("post", 0, 1, "q", (0,)), ("post", 1, 2, "q", (0,)), ("leave", 2, (0,)))
        program = Program(1, (0,), (5, 0), double, *quiet("q"))
        takes = possible_takes(program, table_of(program))
        for many, needed in ((0, 0), (1, 1), (2, 1), (3, 2), (9, 5), (10, 5)):
            self.assertEqual(bounds_of(program, takes, (0, (0, many))).least(0, program.begin)[0], needed)
        self.assertEqual(bounds_of(program, takes, (0, (0, 11))).least(0, program.begin), (None, None))

    def test_any_number_by_one_take(self):
        takes = possible_takes(JOBS, table_of(JOBS))
        bounds = bounds_of(JOBS, takes, (0, (0, 50)))
        self.assertEqual(bounds.least(0, JOBS.begin), (1, {takes.index((0, 0, 0, (0, ANY))): 1}))

    def test_what_waits_is_carried_on_only(self):
        program = Program(2, (0,), (3, 0), *quiet("p", "q"))
        # In the mode 0 each p becomes a q, or leads to the mode 1; there each p becomes two.
        takes = [(0, 0, 0, (0, 1)), (0, 0, 1, (0, 0)), (1, 0, 1, (2, 0))]
        self.assertEqual(homes_of(program, takes), [0, 1])
        for bag, needed in (((1, 0), 1), ((2, 1), 3), ((9, 1), 10), ((0, 2), 3), ((0, 3), None)):
            self.assertEqual(bounds_of(program, takes, (1, bag)).least(0, (3, 0))[0], needed)
        # If there is a way back, a p that comes from there can become a q, too.
        takes.append((1, 0, 0, (0, 0)))
        self.assertEqual(homes_of(program, takes), [0, 0])
        self.assertIsNotNone(bounds_of(program, takes, (1, (0, 3))).least(0, (3, 0))[0])

    def test_what_was_found_is_kept(self):
        takes = possible_takes(GROW, table_of(GROW))
        bounds = bounds_of(GROW, takes, (0, (0, 1, 9, 9)))
        self.assertEqual(bounds.low(0, (1, 0, 0, 0)), 0)
        self.assertEqual(bounds.least(0, (1, 0, 0, 0))[0], 19)
        self.assertEqual(bounds.low(0, (1, 0, 0, 0)), 19)
        self.assertEqual(bounds.low(0, (0, 1, 0, 0)), 18)
        for seed in range(40):
            program = onward(seed, modes=3) if seed % 2 else loose(seed, modes=3)
            source = random.Random(seed)
            bounds = bounds_of(program, possible_takes(program, table_of(program)), random_question(program, seed))
            for _ in range(12):
                mode, bag = source.randrange(program.modes), tuple(source.randint(0, 3) for _ in range(len(program)))
                low, least = bounds.low(mode, bag), bounds.least(mode, bag)[0]
                self.assertTrue(least is None or low <= least)

    def test_nothing_is_left_behind_by_a_question(self):
        takes = possible_takes(DOOR, table_of(DOOR))
        for end in ((1, (1, 0, 1)), (0, (0, 1, 0)), (1, (0, 0, 0))):
            bounds = bounds_of(DOOR, takes, end)
            first = [bounds.least(mode, bag) for mode in (0, 1) for bag in ((1, 0, 1), (0, 1, 1), (3, 3, 3))]
            again = [bounds.least(mode, bag) for mode in (0, 1) for bag in ((1, 0, 1), (0, 1, 1), (3, 3, 3))]
            self.assertEqual([least for least, _ in first], [least for least, _ in again])


class SearchTest(unittest.TestCase):
    def search(self, program, begins, end, most):
        table = table_of(program)
        ways = [(way, program.names.index(way[0])) for way in possible_ways(program, table)]
        return Search(program, table, ways, begins, end, most)

    def test_most_and_looks(self):
        begins, end = [(0, (1, 0, 0, 0))], (0, (0, 1, 3, 3))
        for most in (7, 8, 1000):
            self.assertEqual(length_of(self.search(GROW, begins, end, most).least_row(None)[1]), 7)
            self.assertIsNone(self.search(GROW, begins, end, most).least_row(1))
        self.assertIsNone(self.search(GROW, begins, end, 6).least_row(None))

    def test_wide_begins(self):
        start, row = self.search(GROW, [(0, (0, 1, ANY, 2))], (0, (0, 0, 10 ** 40, 4)), 9).least_row(None)
        self.assertEqual((start, [(way[0], many) for way, _, many in row]), (0, [("p", 2)]))
        self.assertIsNone(self.search(GROW, [(0, (0, 0, ANY, 2))], (0, (0, 0, 9, 3)), 99).least_row(None))
        begins = [(0, (0, 1, 0, 0)), (0, (1, 0, 9, 9))]
        self.assertEqual(len(self.search(GROW, begins, (0, (0, 0, 9, 9)), 99).least_row(None)[1]), 0)

    def test_what_rounds_make_more_of(self):
        table = table_of(GROW)
        self.assertEqual(raised_by_rounds(GROW, table, 0, (0, 1, 0, 0)), (0, 1, ANY, ANY))
        self.assertEqual(raised_by_rounds(GROW, table, 0, (1, 0, 0, 0)), (1, 0, 0, 0))
        self.assertEqual(raised_by_rounds(GROW, table, 0, (0, 3, 5, ANY)), (0, 3, ANY, ANY))
        table = table_of(DOOR)
        self.assertEqual(raised_by_rounds(DOOR, table, 0, (1, 0, 1)), (1, 0, 1))
        # Where some possible way has too many gains nothing is raised.
        program = MANY.with_begin((1,) * len(MANY))
        self.assertEqual(raised_by_rounds(program, table_of(program), 0, program.begin), program.begin)

    def test_only_what_is_covered_is_raised(self):
        raised = 0
        for seed in range(120):
            program = onward(seed, modes=3) if seed % 2 else loose(seed, modes=3)
            rows = Tops(program).rows
            for start in program.starts:
                bag = raised_by_rounds(program, table_of(program), start, program.begin)
                self.assertTrue(is_below(program.begin, bag))
                self.assertTrue(any(mode == start and is_below(bag, wide) for mode, wide in rows))
                raised += bag != program.begin
        self.assertGreater(raised, 30)


class JoinsTest(unittest.TestCase):
    def test_reached(self):
        takes = [(0, 0, 1, (0, 1, 0)), (1, 1, 1, (0, 0, ANY)), (2, 2, 0, (0, 0, 0))]
        self.assertEqual(reached(DOOR.with_starts((0,)), takes[:2], 0, (1, 0, 0)), ([True, True], [True, True, True]))
        self.assertEqual(reached(DOOR, takes[:1], 0, (1, 0, 0)), ([True, True], [True, True, False]))
        self.assertEqual(reached(DOOR, takes[:2], 0, (0, 1, 0)), ([True, False], [False, True, False]))
        self.assertEqual(reached(DOOR, [], 1, (0, ANY, 0)), ([False, True], [False, True, False]))
        self.assertTrue(are_joined(DOOR, takes[:2], 0, (1, 0, 0)))
        self.assertTrue(are_joined(DOOR, takes[1::-1], 0, (1, 0, 0)))
        self.assertFalse(are_joined(DOOR, takes[:2], 0, (0, 1, 0)))
        self.assertTrue(are_joined(DOOR, [], 0, (0, 0, 0)))

    def test_against_all_rows(self):
        for seed in range(40):
            program = loose(seed, modes=3)
            takes = possible_takes(program, table_of(program))
            tops = Tops(program).rows
            for start in program.starts:
                modes, tasks = reached(program, takes, start, program.begin)
                alone = Tops(program.with_starts((start,))).rows
                self.assertEqual([mode for mode, there in enumerate(modes) if there], sorted({mode for mode, _ in alone}))
                for task, there in enumerate(tasks):
                    self.assertEqual(there, any(wide[task] != 0 for _, wide in alone))
            self.assertTrue(tops)

    def test_made_and_stays(self):
        take = (0, 1, 1, (0, ANY))
        self.assertTrue(can_be_made(take, [True, False], [False, True]))
        self.assertFalse(can_be_made(take, [False, True], [False, True]))
        self.assertFalse(can_be_made(take, [True, True], [True, False]))
        self.assertTrue(stays(take, [False, True], [False, True]))
        self.assertFalse(stays(take, [True, False], [False, True]))
        self.assertFalse(stays(take, [True, True], [True, False]))

    def test_homes(self):
        program = Program(5, (0,), (1,), *quiet("p"))
        self.assertEqual(homes_of(program, []), [0, 1, 2, 3, 4])
        ring = [(3, 0, 1, (0,)), (1, 0, 4, (0,)), (4, 0, 3, (0,)), (0, 0, 1, (0,)), (4, 0, 2, (0,))]
        self.assertEqual(homes_of(program, ring), [0, 1, 2, 1, 1])
        self.assertEqual(homes_of(program, ring + [(2, 0, 0, (0,))]), [0, 0, 0, 0, 0])


if __name__ == "__main__":
    unittest.main()
