"""Answers come soon: also beyond the limits, for rows of many takes, and where a program was asked before."""

import random
import time
import unittest

from postedbag.ask.covers import cover_paper, covers, least_takes
from postedbag.ask.needs import is_needs, needs, needs_in
from postedbag.ask.piles import most_waiting, pile_plan, piles
from postedbag.ask.places import is_place_paper, path_gains, place_covers, place_paper, place_tops
from postedbag.ask.rows import are_long, greatest_length, is_row_paper, long_plan, row_paper
from postedbag.base.bags import ANY
from postedbag.base.programs import Procedure, Program
from postedbag.compare.posts import cuts, idle_posts, is_cut
from postedbag.compare.programs import covers_no_more, extra, more_paper
from postedbag.errors import TooMany
from postedbag.know.gains import ends_of, gains, is_gained, posted_any
from postedbag.know.tables import table_of
from postedbag.plan.bulks import in_bulks
from postedbag.plan.tops import Tops, is_bar
from tests.randoms import loose, onward

# A machine on which much else is done can take so many times as long.
SLACK = 6

PICK = (("post", 0, 1, "a", (0,)), ("post", 0, 1, "b", (0,)), ("post", 0, 1, "c", (0,)), ("leave", 1, (0,)))
FOUR = (("call", 0, 1, "c", (0,)), ("call", 1, 2, "c", (0,)), ("call", 2, 3, "c", (0,)), ("leave", 3, (0,)))
MANY = tuple([("call", at, at + 1, "b", (0,)) for at in range(5)]) + (("leave", 5, (0,)),)
ONCE = Procedure("d", 2, ("call", 0, 1, "a", (0,)), ("leave", 1, (0,)))
TWICE = Procedure("d", 3, ("call", 0, 1, "a", (0,)), ("call", 1, 2, "a", (0,)), ("leave", 2, (0,)))
LAST = (("call", 0, 1, "a", (0,)), ("call", 1, 2, "a", (0,)), ("leave", 2, (0,)), ("leave", 1, (1,)))
GO = ("leave", 1, (0,))


def program_p():
    """A program of which one way has 136 gains."""
    return Program.of(1, (0,), (1, 0, 0, 0), (
        Procedure.of("a", 6, MANY), Procedure.of("b", 4, FOUR), Procedure.of("c", 2, PICK), ONCE,
    ))


def program_q():
    """A program of which one way has more than 400 gains."""
    return program_p().with_procedure(TWICE)


def program_w():
    """A program of which a task that can be taken has too many gains."""
    return Program.of(2, (0,), (0, 0, 0, 1), (
        Procedure.of("a", 6, MANY), Procedure.of("b", 4, FOUR), Procedure.of("c", 2, PICK), Procedure.of("d", 3, LAST),
    ))


def program_v():
    """A program with more than 400 tops."""
    return Program(
        1, (0,), (28, 0, 0), Procedure("a", 2, ("post", 0, 1, "b", (0,)), GO),
        Procedure("b", 2, ("post", 0, 1, "c", (0,)), GO), Procedure("c", 1),
    )


def clock():
    """A program of which each task makes one more task, and itself again."""
    again = (("post", 0, 1, "a", (0,)), ("post", 1, 2, "b", (0,)), ("leave", 2, (0,)))
    return Program(1, (0,), (1, 0), Procedure.of("a", 3, again), Procedure("b", 1, ("leave", 0, (0,))))


def told(call, *values):
    """What a call returns, or the limit that is passed."""
    try:
        return call(*values)
    except TooMany as error:
        return error.limit


class FirstTest(unittest.TestCase):
    def check(self, most, make, call, *values):
        """What a call for a new program returns, which takes at most so many milliseconds."""
        best = None
        for _ in range(5):
            program = make()
            began = time.perf_counter()
            answer = told(call, program, *values)
            best = min(time.perf_counter() - began, best or 9)
        self.assertLess(best * 1000, most * SLACK, call)
        return answer

    def test_gains_beyond_the_limit(self):
        way = ("d", 0, 0, 0)
        self.assertEqual(len(self.check(2, program_p, gains, ("a", 0, 0, 0))), 136)
        self.assertEqual(len(self.check(2, program_p, gains, way)), 136)
        self.assertIs(self.check(2, program_p, is_gained, way, (5, 5, 5, 0)), True)
        self.assertIs(is_gained(program_p(), way, (5, 5, 6, 0)), False)
        self.assertEqual(self.check(2, program_q, gains, way), 400)
        self.assertEqual(self.check(2, program_q, is_gained, way, (0, 0, 0, 0)), 400)
        self.assertEqual(self.check(2, program_q, posted_any, way), 400)
        self.assertEqual(self.check(2, program_q, ends_of, "d", 0), 400)

    def test_tops_and_bars_with_such_gains(self):
        self.assertEqual(self.check(3, program_w, Tops), 400)
        self.assertEqual(self.check(3, program_w, is_bar, ((0, (ANY,) * 4),)), 400)

    def test_more_than_four_hundred_tops(self):
        for call in (covers, least_takes, cover_paper):
            self.assertEqual(self.check(3, program_v, call, 0, (0, 0, 1)), 400)
        for begin in ((10 ** 39, 0, 0), (29, 0, 0), (20, 20, 20)):
            self.assertEqual(self.check(3, lambda: program_v().with_begin(begin), covers, 0, (0, 0, 1)), 400)
        self.assertEqual(len(Tops(program_v().with_begin((26, 0, 0)))), 378)

    def test_rows_of_many_takes(self):
        self.assertEqual(self.check(3, clock, least_takes, 0, (0, 1000)), 1000)
        self.assertEqual(self.check(1, clock, least_takes, 0, (1, 300)), 300)
        self.assertEqual(self.check(3, clock, least_takes, 0, (0, 1001)), 1000)
        self.assertEqual(len(self.check(6, clock, cover_paper, 0, (0, 1000))[2]), 1000)

    def test_limits_of_what_was_built_later(self):
        self.assertEqual(self.check(5, clock, needs, 0, (0, 1001)), 1000)
        self.assertEqual(self.check(5, program_v, needs, 0, (0, 0, 27)), 400)
        self.assertEqual(self.check(3, program_w, needs, 0, (0, 0, 0, 1)), 400)
        self.assertEqual(self.check(3, program_w, place_tops, ("d", 0, 0)), 400)
        self.assertEqual(self.check(3, program_w, path_gains, "d", 0, ("d", 2, 0)), 400)
        self.assertEqual(self.check(3, program_v, piles), 400)
        self.assertEqual(self.check(3, program_w, are_long), 400)
        waiting = ("leave", 0, (0,))
        for begin in ((401, 0), (10 ** 39, 10 ** 39), (200, 201)):
            make = lambda: Program(1, (0,), begin, Procedure("a", 1, waiting), Procedure("b", 1, waiting))
            self.assertEqual(self.check(3, make, greatest_length), 400)
        self.assertEqual(self.check(3, program_v, extra, program_v()), 400)
        self.assertEqual(self.check(3, program_v, cuts, 0, (0, 0, 1)), 400)


class AgainTest(unittest.TestCase):
    def check(self, most, call, questions):
        """Whether calls take at most so many milliseconds each, where they were asked before."""
        answers = [told(call, *question) for question in questions]
        best = 9
        for _ in range(3):
            began = time.perf_counter()
            again = [told(call, *question) for question in questions]
            best = min(best, (time.perf_counter() - began) / len(questions))
        self.assertEqual(answers, again)
        self.assertLess(best * 1000, most * SLACK, call)

    def test_small_programs(self):
        programs = [onward(seed, 3, 2, 3) if seed % 2 else loose(seed) for seed in range(60)]
        source = random.Random(1)
        ways, bags, places = [], [], []
        for program in programs:
            name = source.choice(program.names)
            ways.append((program, (name, 0, source.randrange(program.modes), source.randrange(program.modes))))
            bags.append((program, source.randrange(program.modes), tuple(source.choice((0, 1, 2)) for _ in program.names)))
            places.append((program, (name, source.randrange(program[name].points), source.randrange(program.modes))))
        for call in (gains, posted_any):
            self.check(0.04, call, ways)
        self.check(0.04, is_gained, [(program, way, bag) for (program, way), (_, _, bag) in zip(ways, bags)])
        for call in (covers, least_takes, cover_paper, needs, cuts):
            self.check(0.08, call, bags)
        self.check(0.08, needs_in, [(*question, 5) for question in bags])
        self.check(0.08, place_tops, places)
        self.check(0.08, place_covers, [(*place, bag) for place, (_, _, bag) in zip(places, bags)])
        self.check(0.08, place_paper, [(*place, bag) for place, (_, _, bag) in zip(places, bags)])
        for call in (piles, are_long, greatest_length, row_paper, idle_posts):
            self.check(0.08, call, [(program,) for program in programs])
        self.check(0.08, most_waiting, [(program, program.names[0]) for program in programs])
        self.check(0.1, pile_plan, [(program, program.names[:1], 3) for program in programs])
        self.check(0.1, long_plan, [(program, 3) for program in programs])
        self.check(0.08, is_cut, [(*question, question[0].posts[:2]) for question in bags])
        pairs = [(program, program.without_posts(program.posts[:1])) for program in programs]
        for call in (covers_no_more, extra, more_paper):
            self.check(0.08, call, pairs)

    def test_judges(self):
        programs = [onward(seed, 3, 2, 3) if seed % 2 else loose(seed) for seed in range(60)]
        rows, papers, spots, tables = [], [], [], []
        for program in programs:
            place, nothing = (program.names[0], 0, 0), (0,) * len(program)
            rows.append((program, Tops(program).rows))
            papers.append((program, row_paper(program)))
            spots.append((program, place, nothing, place_paper(program, place, nothing)))
            tables.append((program, 0, nothing, needs(program, 0, nothing)))
        for call, questions in ((is_bar, rows), (is_row_paper, papers), (is_place_paper, spots), (is_needs, tables)):
            self.check(0.1, call, questions)


class KeptTest(unittest.TestCase):
    def test_more_questions_than_are_kept(self):
        program = clock()
        for many in range(300):
            self.assertEqual(least_takes(program, 0, (0, many)), many)
            self.assertEqual(needs_in(program, 0, (0, many), 1)[0][-1], (1, max(0, many - 1)) if many else (0, 0))
            self.assertEqual(cuts(program, 0, (2, many)), ((),))
        self.assertLess(max(len(kept) for kept in program.notes.values() if isinstance(kept, dict)), 1000)

    def test_other_starts_and_begins(self):
        program = program_p()
        table = table_of(program)
        for other in (program.with_begin((1, 2, 3, 4)), program.with_starts((0,))):
            self.assertIs(table_of(other), table)
            self.assertEqual(gains(other, ("a", 0, 0, 0)), gains(program, ("a", 0, 0, 0)))
        self.assertIsNot(table_of(program.with_procedure(TWICE)), table)
        first = Tops(clock().with_begin((0, 3))).rows
        self.assertEqual(first, ((0, (0, 3)),))
        self.assertNotEqual(Tops(clock()).rows, first)


class BulksTest(unittest.TestCase):
    def test_in_an_order(self):
        takes = [(0, 0, 0, (1, 1)), (0, 1, 0, (0, 0)), (0, 0, 1, (0, 0)), (1, 1, 0, (1, 0))]
        self.assertEqual(in_bulks(takes, {0: 10 ** 6}, 0, (1, 0), (0, (1, 10 ** 6))), [(0, 10 ** 6)])
        self.assertEqual(in_bulks(takes, {0: 5, 1: 5}, 0, (1, 0), (0, (1, 0))), [(0, 5), (1, 5)])
        self.assertIsNone(in_bulks(takes, {0: 5, 1: 6}, 0, (1, 0), (0, (1, 0))))
        self.assertIsNone(in_bulks(takes, {0: 5}, 0, (0, 9), (0, (0, 0))))
        self.assertIsNone(in_bulks(takes, {0: 5}, 1, (1, 0), (1, (0, 0))))
        self.assertIsNone(in_bulks(takes, {0: 5}, 0, (1, 0), (0, (1, 6))))
        self.assertEqual(in_bulks(takes, {2: 1, 3: 1, 0: 2}, 0, (1, 1), (0, (1, 2))), [(0, 2), (2, 1), (3, 1)])
        self.assertEqual(in_bulks(takes, {}, 0, (0, 0), (0, (0, 0))), [])
        self.assertEqual(in_bulks(takes, {1: 7}, 0, (0, ANY), None), [(1, 7)])


if __name__ == "__main__":
    unittest.main()
