"""[0.26], [16.1] and stage 16: programs compared."""

import copy
import itertools
import random
import unittest

from postedbag.ask.covers import covers
from postedbag.base.bags import ANY
from postedbag.base.programs import Procedure, Program
from postedbag.compare.programs import covers_no_more, covers_same, extra, is_more_paper, least_beyond, more_paper
from postedbag.errors import InvalidOperation, InvalidProgram, TooMany
from postedbag.plan.plans import end_of
from postedbag.plan.tops import Tops, is_bar
from tests.randoms import full, loose, onward
from tests.samples import DOOR, HUGE, JOBS, LEAVE, TREE, odd_values
from tests.test_gains import MANY
from tests.test_needs import CLOCK
from tests.test_tops import TURNS
from tests.words import is_below

HUSHED = JOBS.without_posts(JOBS.posts)
PAPER = (0, (0, 9), 0, (("src", 0, {("leave", "src", 1, 0): 1, ("post", "src", 0, 0, 0): 10 ** 30}),), ((0, (1, 0)),))
CALLS = (covers_no_more, covers_same, extra, more_paper, lambda one, other: is_more_paper(one, other, None))


def pairs_of_programs(many):
    """So many pairs of programs that can be compared, with a seed for each."""
    for seed in range(many):
        source = random.Random(seed)
        program = onward(seed, modes=3) if seed % 2 else loose(seed, modes=3)
        other = program.without_posts(tuple(source.sample(program.posts, min(len(program.posts), seed % 3))))
        if seed % 4 == 0:
            other = other.with_begin(tuple(max(0, many + source.randint(-1, 1)) for many in program.begin))
        if seed % 5 == 0:
            other = other.with_starts(tuple(sorted(source.sample(range(program.modes), source.randint(1, program.modes)))))
        yield seed, program, other


class ComparedTest(unittest.TestCase):
    def test_a_program_and_itself(self):
        for program in (JOBS, TREE, DOOR, CLOCK):
            same = Program.of(program.modes, program.starts, program.begin, program.procedures)
            self.assertIs(covers_no_more(program, same), True)
            self.assertIs(covers_same(program, same), True)
            self.assertEqual(extra(program, same), ())
            self.assertIsNone(more_paper(program, same))

    def test_posts_left_out(self):
        self.assertEqual([covers_no_more(HUSHED, JOBS), covers_no_more(JOBS, HUSHED)], [True, False])
        self.assertEqual([covers_same(HUSHED, JOBS), covers_same(JOBS, HUSHED)], [False, False])
        self.assertEqual((extra(HUSHED, JOBS), extra(JOBS, HUSHED)), ((), ((0, (0, ANY)),)))
        for seed in range(60):
            program = onward(seed)
            less = program.without_posts(program.posts[:1])
            self.assertIs(covers_no_more(less, program), True)

    def test_other_begins_and_starts(self):
        more = DOOR.with_begin((1, 1, 1))
        self.assertEqual([covers_no_more(DOOR, more), covers_no_more(more, DOOR)], [True, False])
        started = DOOR.with_starts((0, 1))
        self.assertEqual([covers_no_more(DOOR, started), covers_no_more(started, DOOR)], [True, True])
        self.assertIs(covers_same(DOOR, started), True)
        self.assertIs(covers_no_more(JOBS, JOBS.with_begin((0, 9))), False)

    def test_by_what_is_covered(self):
        kinds = []
        for seed, one, other in pairs_of_programs(120):
            told = extra(one, other)
            rows = Tops(other).rows
            right = [top for top in Tops(one).rows
                     if not any(top[0] == mode and is_below(top[1], wide) for mode, wide in rows)]
            self.assertEqual(told, tuple(right), seed)
            self.assertIs(covers_no_more(one, other), not told)
            self.assertIs(covers_same(one, other), not told and not extra(other, one))
            if not told:
                for mode, bag in itertools.product(range(one.modes), itertools.product((0, 1, 3), repeat=len(one))):
                    self.assertTrue(covers(other, mode, bag) or not covers(one, mode, bag))
            kinds.append(bool(told))
        self.assertGreater(min(kinds.count(True), kinds.count(False)), 20)

    def test_least_bags_beyond_others(self):
        source = random.Random(9)
        for _ in range(60):
            wide = tuple(source.choice((ANY, 0, 1, 2, 3)) for _ in range(3))
            others = [tuple(source.choice((ANY, 0, 1, 2)) for _ in range(3)) for _ in range(source.randint(0, 4))]
            found = least_beyond(wide, others)
            for bag in itertools.product(range(4), repeat=3):
                told = is_below(bag, wide) and not any(is_below(bag, other) for other in others)
                self.assertIs(any(is_below(least, bag) for least in found) and is_below(bag, wide), told)


class PapersTest(unittest.TestCase):
    def check(self, one, other, value, right):
        self.assertIs(is_more_paper(one, other, value), right, value)

    def test_told_and_judged(self):
        for seed, one, other in pairs_of_programs(120):
            paper = more_paper(one, other)
            self.assertIs(paper is None, covers_no_more(one, other), seed)
            if paper is not None:
                self.check(one, other, paper, True)
                mode, bag, start, takes, standings = paper
                self.assertIs(covers(one, mode, bag), True)
                self.assertIs(covers(other, mode, bag), False)
                self.assertIs(is_bar(other, standings), True)
                end = end_of(one, (start, takes))
                self.assertTrue(end[0] == mode and is_below(bag, end[1]))
                self.check(other, one, paper, False)

    def test_values_near_a_paper(self):
        self.check(JOBS, HUSHED, PAPER, True)
        mode, bag, start, takes, standings = PAPER
        for right, value in (
            (True, (0, (0, 1), start, takes, standings)), (True, (0, (0, 10 ** 30), start, takes, standings)),
            (False, (0, (0, 10 ** 30 + 1), start, takes, standings)), (False, (0, (1, 9), start, takes, standings)),
            (False, (0, (0, 0), start, takes, standings)), (False, (1, bag, start, takes, standings)),
            (False, (0, bag, 1, takes, standings)), (False, (False, bag, start, takes, standings)),
            (False, (0, bag, False, takes, standings)), (False, (0, list(bag), start, takes, standings)),
            (False, (0, bag, start, (), standings)), (False, (0, bag, start, list(takes), standings)),
            (False, (0, bag, start, takes * 2, standings)), (False, (0, bag, start, takes, list(standings))),
            (False, (0, bag, start, takes, ())), (False, (0, bag, start, takes, ((0, (0, 0)),))),
            (True, (0, bag, start, takes, ((0, (0, 0)), (0, (1, 0))))),
            (True, (0, bag, start, takes, ((0, (2, 8)),))), (False, (0, bag, start, takes, ((0, (2, 9)),))),
            (False, (0, bag, start, takes, ((0, (1, ANY)),))), (False, (0, (0, ANY), start, takes, standings)),
            (False, PAPER[:4]), (False, (*PAPER, 0)), (False, list(PAPER)), (False, None), (False, ()),
        ):
            self.check(JOBS, HUSHED, value, right)
        self.check(HUSHED, JOBS, PAPER, False)
        self.check(JOBS, JOBS, PAPER, False)

    def test_other_values(self):
        for value in odd_values():
            self.check(JOBS, HUSHED, value, False)
            for at in range(5):
                paper = list(PAPER)
                paper[at] = value
                self.check(JOBS, HUSHED, tuple(paper), at in (0, 2) and type(value) is int and value == 0)

    def test_any_number(self):
        paper = more_paper(JOBS, JOBS.with_begin((0, 10 ** 39)))
        self.check(JOBS, JOBS.with_begin((0, 10 ** 39)), paper, True)
        paper = more_paper(JOBS.with_begin((1, 3)), HUSHED.with_begin((1, 3)))
        self.assertEqual(paper[:3], (0, (0, 4), 0))

    def test_nothing_is_changed_and_nothing_is_kept(self):
        kept = copy.deepcopy(PAPER)
        self.check(JOBS, HUSHED, PAPER, True)
        self.assertEqual(PAPER, kept)
        told = more_paper(JOBS, HUSHED)
        told[3][0][2].clear()
        self.check(JOBS, HUSHED, more_paper(JOBS, HUSHED), True)


class ErrorsTest(unittest.TestCase):
    def test_in_their_order(self):
        for call in CALLS:
            for value in odd_values():
                if not isinstance(value, Program):
                    self.assertRaises(InvalidProgram, call, value, DOOR)
                    self.assertRaises(InvalidProgram, call, DOOR, value)
                    self.assertRaises(InvalidProgram, call, TURNS.with_begin((HUGE, 0)), value)
            for other in (JOBS, DOOR.without("shut"), DOOR.renamed({"open": "opened"}),
                          Program(2, (0,), (0, 1, 1), *DOOR.procedures[::-1]), Program.of(3, (0,), DOOR.begin, DOOR.procedures)):
                self.assertRaises(InvalidOperation, call, DOOR, other)
                self.assertRaises(InvalidOperation, call, other, DOOR)

    def test_too_many(self):
        beyond = TURNS.with_begin((HUGE, 0))
        for call in CALLS[:4]:
            for one, other in ((beyond, TURNS), (TURNS, beyond), (beyond, beyond)):
                with self.assertRaises(TooMany) as caught:
                    call(one, other)
                self.assertEqual(caught.exception.limit, 400)
            self.assertRaises(TooMany, call, MANY.with_begin((0, 0, 0, 0, 1)), MANY)
            self.assertRaises(InvalidOperation, call, beyond, JOBS)
        # A plan and a bar are judged without the tops.
        uses = {("leave", "p", 1, 0): 1, ("post", "p", 0, 0, 0): 1}
        paper = (0, (HUGE - 1, 1), 0, (("p", 0, uses),), ((0, (1, 0)), (0, (0, 1))))
        self.check_paper(beyond, TURNS, (*paper[:4], ((0, (0, 1)), (0, (1, 0)))), True)
        self.check_paper(beyond, TURNS, paper, False)

    def check_paper(self, one, other, value, right):
        """Whether a paper is judged as it should be."""
        self.assertIs(is_more_paper(one, other, value), right)

    def test_more_than_a_thousand_takes(self):
        other = CLOCK.with_begin((0, 999))
        self.assertEqual(len(more_paper(CLOCK.with_begin((1, 0)), other)[3]), 0)
        quiet_one = CLOCK.without_posts((("a", 1),))
        self.assertEqual(len(more_paper(CLOCK, quiet_one.with_begin((1, 999)))[3]), 1000)
        with self.assertRaises(TooMany) as caught:
            more_paper(CLOCK, quiet_one.with_begin((1, 1000)))
        self.assertEqual(caught.exception.limit, 1000)
        self.assertEqual(extra(CLOCK, quiet_one.with_begin((1, 1000))), ((0, (1, ANY)),))

    def test_in_good_time(self):
        for seed in range(6):
            program = full(seed)
            for other in (program.without_posts(program.posts[:3]), program.with_begin((1, 1, 1, 1, 1))):
                try:
                    paper = more_paper(program, other)
                except TooMany as error:
                    self.assertIn(error.limit, (400, 1000))
                else:
                    self.assertTrue(paper is None or is_more_paper(program, other, paper))


if __name__ == "__main__":
    unittest.main()
