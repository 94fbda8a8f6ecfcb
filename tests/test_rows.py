"""[0.25], [15.1] and stage 15: long rows."""

import copy
import itertools
import random
import unittest

from postedbag.ask.piles import is_bounded, most_waiting
from postedbag.ask.rows import are_long, greatest_length, is_row_paper, long_plan, row_paper
from postedbag.base.bags import ANY
from postedbag.base.programs import Procedure, Program
from postedbag.errors import InvalidNumber, InvalidProgram, TooMany
from postedbag.know.tables import table_of
from postedbag.plan.loops import may_loop
from postedbag.plan.plans import is_plan
from postedbag.plan.rounds import RoundSearch
from postedbag.plan.tallies import Tally
from postedbag.plan.walks import Ground, Walk
from tests.randoms import full, loose, onward
from tests.samples import DOOR, HUGE, JOBS, LEAVE, TREE, odd_values
from tests.test_gains import MANY
from tests.test_needs import CLOCK, STEPS
from tests.test_tops import TURNS, gains_of_tasks, plain, post, quiet
from tests.words import is_below, takes_of

END = Procedure("end", 2, ("go", 0, 1, ((0, 1),)), ("leave", 1, (1,)))
# Any number of tasks can wait that end the program, each one for good.
ONCE = Program(2, (0,), (1, 0), Procedure("src", 1, ("post", 0, 0, "end", (0,)), LEAVE), END)
SHORT = (((0, (0, -1)), 1), ((0, (1, 0)), 2), ((1, (0, -1)), 0))


def waiting(*begin):
    """A program of tasks that only leave."""
    return Program(1, (0,), begin, *quiet(*"abcde"[:len(begin)]))


class LongError(Exception):
    """Rows are long."""


class ManyError(Exception):
    """There are too many rows for all to be followed."""


def length_by_words(program, most):
    """The greatest number of takes, None if rows are long, or "more" if that cannot be told with so many steps."""
    takes = takes_of(program, gains_of_tasks(program))
    steps = itertools.count()

    def follow(row):
        if next(steps) > most or len(row) > 70:
            raise ManyError
        mode, bag = row[-1]
        longest = 0
        for at, ahead, end, gain in takes:
            if ahead == mode and bag[at] != 0:
                more = [ANY if ANY in pair else sum(pair) for pair in zip(bag, gain)]
                behind = (end, tuple(many - (index == at) if many != ANY else ANY for index, many in enumerate(more)))
                if any(other == end and is_below(less, behind[1]) for other, less in row):
                    raise LongError
                longest = max(longest, 1 + follow([*row, behind]))
        return longest

    try:
        return max(follow([(start, program.begin)]) for start in program.starts)
    except LongError:
        return None
    except ManyError:
        return "more"


def some_programs(many):
    """So many programs with a seed for each."""
    for seed in range(many):
        program = onward(seed, 3, 2, 4) if seed % 2 else loose(seed, modes=3)
        if seed % 5 == 0:
            source = random.Random(seed)
            program = program.with_begin(tuple(source.choice((0, 1, 2, 5, 12)) for _ in program.names))
        yield seed, program


class LengthTest(unittest.TestCase):
    def test_against_a_search(self):
        found = []
        for seed, program in some_programs(400):
            length = length_by_words(program, 3000)
            if length != "more":
                self.assertEqual(greatest_length(program), length, seed)
                self.assertIs(are_long(program), length is None)
                found.append(length)
        self.assertGreater(found.count(None), 60)
        self.assertGreater(len(set(found)), 8)

    def test_the_documents_programs(self):
        self.assertEqual([greatest_length(program) for program in (JOBS, TREE, DOOR, ONCE)], [None, None, 5, 2])
        self.assertEqual([are_long(program) for program in (JOBS, TREE, DOOR, ONCE)], [True, True, False, False])

    def test_a_greatest_length_with_any_number_of_tasks(self):
        self.assertEqual((greatest_length(ONCE), is_bounded(ONCE), most_waiting(ONCE, "end")), (2, False, ANY))

    def test_long_though_no_row_goes_on_for_ever(self):
        # One task makes any number of tasks that only leave: each row ends, but there is no longest one.
        self.assertIs(are_long(JOBS), True)
        self.assertIs(are_long(JOBS.with_begin((0, 9))), False)
        self.assertEqual(greatest_length(JOBS.with_begin((0, 9))), 9)

    def test_tasks_that_can_be_begun_and_not_ended(self):
        stuck = Procedure("p", 2, ("post", 0, 1, "q", (0,)))
        self.assertEqual(greatest_length(Program(1, (0,), (4, 3), stuck, *quiet("q"))), 3)
        held = Procedure("p", 2, ("go", 0, 1, ((0, 1),)), ("leave", 1, (0,)))
        self.assertEqual(greatest_length(Program(2, (0,), (4, 0), held, *quiet("q"))), 0)

    def test_several_starts(self):
        program = Program(3, (0, 2), (1, 2), Procedure("p", 1, ("leave", 0, (0,))), Procedure("q", 1, ("leave", 0, (2,))))
        self.assertEqual(greatest_length(program), 2)
        self.assertEqual(greatest_length(program.with_starts((0,))), 1)
        self.assertEqual(greatest_length(program.with_starts((1,))), 0)
        again = Procedure("q", 2, ("post", 0, 1, "q", (2,)), ("leave", 1, (2,)))
        self.assertIs(are_long(program.with_procedure(again)), True)
        self.assertEqual(row_paper(program.with_procedure(again))[1], 2)

    def test_four_hundred_takes_and_one_more(self):
        for begin in ((400,), (200, 200), (133, 133, 134), (399, 0, 1)):
            self.assertEqual(greatest_length(waiting(*begin)), 400)
            program = waiting(begin[0] + 1, *begin[1:])
            for call in (are_long, greatest_length, row_paper, lambda one: long_plan(one, 0)):
                with self.assertRaises(TooMany) as caught:
                    call(program)
                self.assertEqual(caught.exception.limit, 400)
        self.assertEqual(greatest_length(STEPS.with_begin((133, 0, 1))), 400)
        self.assertRaises(TooMany, greatest_length, STEPS.with_begin((133, 1, 0)))
        self.assertEqual(row_paper(waiting(400))[:2], ("short", 400))
        self.assertIs(is_row_paper(waiting(400), row_paper(waiting(400))), True)

    def test_great_begins(self):
        for program in (waiting(HUGE), waiting(HUGE, HUGE, HUGE), TURNS.with_begin((HUGE, 0)),
                        DOOR.with_begin((HUGE, HUGE, HUGE)), STEPS.with_begin((HUGE, 1, 1))):
            self.assertRaises(TooMany, are_long, program)
        # Rows are long, however many other tasks wait: few takes show it.
        again = Procedure("q", 2, ("post", 0, 1, "q", (0,)), ("leave", 1, (0,)))
        program = Program(1, (0,), (HUGE, 1), *quiet("p"), again)
        self.assertIs(are_long(program), True)
        self.assertIs(is_row_paper(program, row_paper(program)), True)
        self.assertRaises(TooMany, are_long, program.with_begin((HUGE, 0)))
        self.assertIs(are_long(JOBS.with_begin((HUGE, HUGE))), True)
        # In the mode 1 tasks come and go, but there is only one task that changes the mode.
        both = Program(
            2, (0,), (30, HUGE, 30),
            Procedure("p", 3, ("post", 0, 1, "q", (0,)), ("leave", 1, (0,)), ("go", 0, 2, ((1, 0),)), ("post", 2, 1, "p", (0,))),
            Procedure("q", 3, ("go", 0, 2, ((0, 1),)), ("leave", 2, (1,)), ("post", 0, 1, "p", (1,)), ("leave", 1, (1,))),
            Procedure("r", 2, ("post", 0, 1, "q", (0,)), ("leave", 1, (0,))),
        )
        try:
            self.assertIn(are_long(both), (True, False))
        except TooMany as error:
            self.assertEqual(error.limit, 400)


class FarTest(unittest.TestCase):
    """What is done where there are too many standings to follow all rows tells the same."""

    def ground(self, program):
        return Ground(program, table_of(program), 255)

    def test_rounds(self):
        for seed, program in some_programs(300):
            walk = Walk(self.ground(program), 10 ** 5)
            search = RoundSearch(self.ground(program), program.modes)
            if not walk.is_over:
                self.assertIs(walk.round is None, search.round is None, seed)
            for found in (walk.round, search.round):
                if found is not None:
                    row, at = found
                    self.assertEqual(row[at][0], row[-1][0])

    def test_tallies(self):
        told = []
        for seed, program in some_programs(300):
            tally = Tally(program, table_of(program))
            length = greatest_length(program)
            if length is None:
                self.assertIsNone(tally.most, seed)
                self.assertTrue(may_loop(program, tally.counted))
            elif tally.most is not None:
                self.assertLessEqual(length, tally.most)
                if tally.row is not None:
                    self.assertEqual(length, tally.most)
                    self.assertEqual(sum(many for _, many in tally.row[1]), length)
                    told.append(length)
        self.assertGreater(len(set(told)), 5)


class PapersTest(unittest.TestCase):
    def check(self, program, value, right):
        self.assertIs(is_row_paper(program, value), right, value)

    def test_told_and_judged(self):
        kinds = []
        for seed, program in some_programs(150):
            paper = row_paper(program)
            self.check(program, paper, True)
            kinds.append(paper[0])
            self.assertEqual(paper[0] == "long", are_long(program))
            if paper[0] == "short":
                self.assertEqual(paper[1], greatest_length(program))
                self.assertEqual(paper[2], tuple(sorted(paper[2])))
            for value in near(paper):
                self.check(program, value, False)
        self.assertGreater(min(kinds.count("long"), kinds.count("short")), 30)

    def test_long_ones(self):
        first, part = (("src", 0, (0, ANY)),), (("job", 0, (0, 0)),)
        self.check(JOBS, ("long", 0, first, part), True)
        self.check(JOBS, ("long", 0, first, part * 3), True)
        self.check(JOBS, ("long", 0, first + part, part), True)
        self.check(JOBS, ("long", 0, first, ()), False)
        self.check(JOBS, ("long", 0, (), first + part), False)
        self.check(JOBS, ("long", 0, (), part), False)
        self.check(JOBS, ("long", 0, (("src", 0, (0, 5)),), part), False)
        self.check(JOBS, ("long", 0, first, (("job", 0, (0, 1)),)), False)
        self.check(JOBS, ("long", 0, first, (("job", 0, (1, 0)),)), False)
        self.check(JOBS, ("long", 0, first, first), False)
        self.check(JOBS.with_begin((2, 0)), ("long", 0, first, first + part), False)
        # A gain need not be used whole.
        self.check(JOBS.with_begin((1, 1)), ("long", 0, (("src", 0, (0, 0)),), part), False)
        self.check(CLOCK, ("long", 0, (), (("a", 0, (1, 1)),)), True)
        self.check(CLOCK, ("long", 0, (), (("a", 0, (1, 0)),)), True)
        self.check(CLOCK, ("long", 0, (), (("a", 0, (0, 1)),)), False)
        self.check(CLOCK, ("long", 0, (), (("a", 0, (1, 2)),)), False)

    def test_modes_of_long_ones(self):
        there = Procedure("p", 3, ("go", 0, 1, ((0, 1), (1, 0))), ("post", 1, 2, "p", (0, 1)), ("leave", 2, (0, 1)))
        program = Program(2, (0,), (1,), there)
        self.check(program, ("long", 0, (), (("p", 1, (1,)), ("p", 0, (1,)))), True)
        self.check(program, ("long", 0, (("p", 1, (1,)),), (("p", 0, (1,)), ("p", 1, (1,)))), True)
        self.check(program, ("long", 0, (), (("p", 1, (1,)),)), False)
        self.check(program, ("long", 1, (), (("p", 0, (1,)), ("p", 1, (1,)))), False)
        self.check(program, ("long", 0, (), (("p", 0, (1,)), ("p", 1, (1,)))), False)

    def test_short_ones(self):
        self.check(ONCE, ("short", 2, SHORT), True)
        self.check(ONCE, ("short", 9, SHORT), True)
        self.check(ONCE, ("short", 1, SHORT), False)
        self.check(ONCE, ("short", 5, tuple((standing, 2 * rank) for standing, rank in SHORT)), True)
        self.check(ONCE, ("short", 2, SHORT[::-1]), False)
        self.check(ONCE, ("short", 2, SHORT[1:]), False)
        self.check(ONCE, ("short", 2, SHORT[:2]), False)
        self.check(ONCE, ("short", 2, (SHORT[0], SHORT[2])), False)
        self.check(ONCE, ("short", 2, SHORT + (((1, (0, 0)), 0),)), True)
        self.check(ONCE, ("short", 2, SHORT + (((1, (0, 0)), 3),)), False)
        self.check(ONCE, ("short", 2, SHORT[:2] + (((1, (ANY, ANY)), 0),)), True)
        self.check(ONCE, ("short", 2, SHORT[:2] + (((1, (0, 99)), 0),)), False)
        self.check(ONCE, ("short", 2, (SHORT[0], ((0, (0, -1)), 2)) + SHORT[1:]), False)
        self.check(ONCE, ("short", 2, (((0, (0, -1)), 0),) + SHORT[1:]), False)
        self.check(JOBS, ("short", 9, (((0, (ANY, ANY)), 9),)), False)
        self.check(waiting(0), ("short", 0, (((0, (0,)), 0),)), True)
        self.check(waiting(0), ("short", 0, ()), False)
        self.check(waiting(1), ("short", HUGE, (((0, (0,)), 0), ((0, (1,)), HUGE))), True)

    def test_tables_that_are_wider(self):
        # A standing can stand for all that is within it.
        self.check(waiting(2, 1), ("short", 3, row_paper(waiting(2, 1))[2]), True)
        table = (((0, (0, ANY)), 0), ((0, (1, ANY)), 1))
        quiet_one = Program(1, (0,), (1, 7), *quiet("a"), Procedure("b", 1))
        self.check(quiet_one, ("short", 1, table), True)
        self.check(quiet_one, ("short", 1, (((0, (1, ANY)), 1),)), False)
        self.check(waiting(1, 7), ("short", 1, table), False)

    def test_no_paper(self):
        for value in odd_values():
            self.check(ONCE, value, False)
            for at in range(3):
                paper = ["short", 2, SHORT]
                paper[at] = value
                self.check(ONCE, tuple(paper), at == 1 and type(value) is int and value >= 2)
            for at in range(4):
                paper = ["long", 0, (("src", 0, (0, ANY)),), (("job", 0, (0, 0)),)]
                paper[at] = value
                self.check(JOBS, tuple(paper), at == 1 and type(value) is int and value == 0)
            for at in range(3):
                take = ["job", 0, (0, 0)]
                take[at] = value
                right = at == 1 and type(value) is int and value == 0
                self.check(JOBS, ("long", 0, (("src", 0, (0, ANY)),), (tuple(take),)), right)
            self.check(JOBS, ("long", 0, (value,), (("job", 0, (0, 0)),)), False)
            self.check(ONCE, ("short", 2, (value,)), False)
            self.check(ONCE, ("short", 2, SHORT + (value,)), False)
            self.check(ONCE, ("short", 2, SHORT[:2] + ((SHORT[2][0], value),)), type(value) is int and value == 0)
        for value in (["short", 2, SHORT], ("short", 2, list(SHORT)), ("short", 2), ("short", 2, SHORT, 0), ("SHORT", 2, SHORT),
                      ("long", 2, SHORT), ("short", 0, (), ()), (2, SHORT)):
            self.check(ONCE, value, False)

    def test_gains_that_are_too_many(self):
        program = MANY.with_begin((0, 0, 0, 0, 1))
        for call in (are_long, row_paper, lambda one: long_plan(one, 1),
                     lambda one: is_row_paper(one, ("short", 1, (((0, program.begin), 1),))),
                     lambda one: is_row_paper(one, ("long", 0, (), (("t", 0, (0, 0, 0, 0, 1)),)))):
            with self.assertRaises(TooMany) as caught:
                call(program)
            self.assertEqual(caught.exception.limit, 400)
        # What is no paper for another reason is none.
        self.check(program, ("short", 1, (((0, (0,) * 5), 1),)), False)
        self.check(program, ("long", 0, (), (("t", 0, (0, 0, 0, 0, 0)),)), False)

    def test_nothing_is_changed(self):
        for program in (ONCE, JOBS, DOOR):
            paper = row_paper(program)
            kept = copy.deepcopy(paper)
            self.check(program, paper, True)
            self.assertEqual((paper, row_paper(program)), (kept, kept))


def near(paper):
    """Values that are nearly a paper, and are none."""
    found = [list(paper), paper[1:], paper[:-1], (*paper, 0), ("row", *paper[1:])]
    if paper[0] == "long":
        found.extend([("long", *paper[2:]), ("long", 9, *paper[2:]), ("long", True, *paper[2:]), (*paper[:3], ())])
        for at, take in enumerate(paper[3]):
            less = [many - 1 if many > 0 else many for many in take[2]]
            found.append((*paper[:3], paper[3][:at] + (("no", *take[1:]),) + paper[3][at + 1:]))
            found.append((*paper[:3], paper[3][:at] + ((*take[:2], take[2] + (0,)),) + paper[3][at + 1:]))
            found.append((*paper[:3], paper[3][:at] + ((*take[:2], tuple(less) + (0,)),) + paper[3][at + 1:]))
    else:
        number, table = paper[1:]
        found.extend([("short", number - 1, table), ("short", True, table), ("short", -1, table), ("short", number, ())])
        for at, (standing, rank) in enumerate(table):
            for other in (rank - 1, number + 1, str(rank), None):
                found.append(("short", number, table[:at] + ((standing, other),) + table[at + 1:]))
            found.append(("short", number, table[:at] + ((standing, rank),) + table[at:]))
            if rank == number:
                found.append(("short", number, table[:at] + table[at + 1:]))
    return found


class PlansTest(unittest.TestCase):
    def test_just_so_many_takes(self):
        for seed, program in some_programs(90):
            length = greatest_length(program)
            for many in (0, 1, 2, 7, 60, *([length] if length is not None and length <= 60 else [])):
                plan = long_plan(program, many)
                self.assertIs(plan is None, length is not None and many > length, (seed, many))
                if plan is not None:
                    self.assertIs(is_plan(program, plan), True)
                    self.assertEqual(len(plan[1]), many)

    def test_the_length_and_one_more(self):
        self.assertEqual(len(long_plan(DOOR, 5)[1]), 5)
        self.assertIsNone(long_plan(DOOR, 6))
        self.assertEqual(len(long_plan(waiting(30, 30), 60)[1]), 60)
        self.assertEqual(len(long_plan(waiting(300, 60), 60)[1]), 60)
        self.assertIsNone(long_plan(waiting(30, 29), 60))
        self.assertEqual(len(long_plan(ONCE, 2)[1]), 2)
        self.assertIsNone(long_plan(ONCE, 3))
        self.assertEqual(long_plan(waiting(0), 0), (0, ()))

    def test_tasks_that_are_needed_later(self):
        plan = long_plan(JOBS, 60)
        self.assertEqual(plan[1][0][0], "src")
        self.assertIs(is_plan(JOBS, plan), True)
        plan[1][0][2].clear()
        self.assertIs(is_plan(JOBS, long_plan(JOBS, 60)), True)


class ErrorsTest(unittest.TestCase):
    def test_in_their_order(self):
        for value in odd_values():
            if not isinstance(value, Program):
                for call in (are_long, greatest_length, row_paper, lambda one: is_row_paper(one, None),
                             lambda one: long_plan(one, None)):
                    self.assertRaises(InvalidProgram, call, value)
            if type(value) is not int or not 0 <= value <= 60:
                for program in (DOOR, waiting(HUGE)):
                    with self.assertRaises(InvalidNumber) as caught:
                        long_plan(program, value)
                    self.assertIs(caught.exception.value, value)
        for many in (-1, 61, HUGE, True):
            self.assertRaises(InvalidNumber, long_plan, waiting(HUGE), many)

    def test_in_good_time(self):
        for seed in range(8):
            program = full(seed)
            for begin in (program.begin, (0, 1, 5, 30, 200), (HUGE,) * 5):
                try:
                    length = greatest_length(program.with_begin(begin))
                except TooMany as error:
                    self.assertEqual(error.limit, 400)
                else:
                    self.assertTrue(length is None or length <= 400)


if __name__ == "__main__":
    unittest.main()
