"""[0.22], [11.1] and stage 11: what is covered, and the papers that show it."""

import copy
import itertools
import random
import time
import unittest

from postedbag.ask.covers import cover_paper, covers, is_cover_paper, least_takes
from postedbag.base.bags import ANY
from postedbag.base.programs import Procedure, Program
from postedbag.errors import InvalidBag, InvalidMode, InvalidProgram, TooMany
from postedbag.plan.plans import end_of, is_plan, plan_of, run_of
from postedbag.plan.tops import Tops, is_bar
from tests.randoms import full, loose, onward, stairs
from tests.samples import DOOR, HUGE, JOBS, TREE, odd_values
from tests.test_gains import MANY
from tests.test_tops import TOPS_OF_DOOR, TURNS, gains_of_tasks, plain, post, quiet
from tests.words import is_below, takes_needed, takes_of

STOP, POST = ("leave", "src", 1, 0), ("post", "src", 0, 0, 0)
# A task s becomes a task p, which posts itself and a task q or r.
BOTH = Procedure("p", 3, ("post", 0, 1, "p", (0,)), ("post", 1, 2, "q", (0,)), ("post", 1, 2, "r", (0,)), ("leave", 2, (0,)))
GROW = Program(1, (0,), (1, 0, 0, 0), plain("s", post("p")), BOTH, *quiet("q", "r"))
CALLS = (covers, least_takes, cover_paper, lambda *parts: is_cover_paper(*parts, None))


def random_question(program, seed):
    """A mode and a bag, more often than not such as are covered."""
    source = random.Random(seed)
    mode, wide = source.choice(Tops(program).rows)
    bag = tuple(source.choice((0, 1, 2, 4)) if many == ANY else source.randint(0, min(many, 5)) for many in wide)
    if source.random() < 0.3:
        bag = tuple(many + (source.random() < 0.3) for many in bag)
    if source.random() < 0.3:
        mode = source.randrange(program.modes)
    return mode, bag


class AgainstASearchTest(unittest.TestCase):
    def check(self, program, mode, bag, most):
        takes = takes_of(program, gains_of_tasks(program))
        needed = takes_needed(program, takes, mode, bag, most)
        least = least_takes(program, mode, bag)
        paper = cover_paper(program, mode, bag)
        self.assertIs(covers(program, mode, bag), least is not None)
        if needed == "more":
            self.assertTrue(least is None or least > most)
        else:
            self.assertEqual(least, needed)
        self.assertIs(is_cover_paper(program, mode, bag, paper), True)
        if least is None:
            self.assertEqual(paper, ("bar", Tops(program).rows))
            self.assertIs(is_bar(program, paper[1]), True)
            self.assertFalse(any(other == mode and is_below(bag, wide) for other, wide in paper[1]))
        else:
            self.assertEqual((paper[0], len(paper[2])), ("plan", least))
            self.assertIs(is_plan(program, paper[1:]), True)
            end = end_of(program, paper[1:])
            self.assertTrue(end[0] == mode and is_below(bag, end[1]))
            for _, _, uses in paper[2]:
                self.assertEqual(list(uses), sorted(uses))
        return least

    def test_programs_at_random(self):
        found = []
        for seed in range(160):
            program = onward(seed, modes=3) if seed % 2 else loose(seed, modes=3)
            for turn in range(2):
                found.append(self.check(program, *random_question(program, 2 * seed + turn), 8))
        self.assertGreater(found.count(None), 20)
        self.assertGreater(len([many for many in found if many is not None and many > 2]), 10)

    def test_all_small_bags(self):
        for program in (DOOR, JOBS, TREE, TURNS.with_begin((3, 0)), GROW):
            for mode in range(program.modes):
                for bag in itertools.product(range(3), repeat=len(program)):
                    self.check(program, mode, bag, 7)

    def test_plans_are_plans_of_runs(self):
        for program, mode, bag in ((DOOR, 1, (1, 0, 1)), (GROW, 0, (0, 1, 4, 5)), (TREE, 0, (0, 9)), (JOBS, 0, (0, 99))):
            paper = cover_paper(program, mode, bag)
            run = run_of(program, paper[1:])
            self.assertEqual(plan_of(run), paper[1:])
            self.assertTrue(run.mode == mode and is_below(bag, run.bag))

    def test_several_starts(self):
        program = DOOR.with_starts((0, 1))
        self.assertEqual(least_takes(program, 1, (1, 0, 1)), 0)
        self.assertEqual(cover_paper(program, 1, (1, 0, 1)), ("plan", 1, ()))
        self.assertEqual(cover_paper(program, 0, (1, 0, 1)), ("plan", 0, ()))
        self.assertEqual(least_takes(program, 0, (1, 0, 0)), 0)


class GreatNumbersTest(unittest.TestCase):
    def test_any_number_by_one_take(self):
        for many in (1, 2, 10 ** 6, HUGE):
            self.assertEqual(least_takes(JOBS, 0, (0, many)), 1)
            paper = cover_paper(JOBS, 0, (0, many))
            self.assertGreaterEqual(end_of(JOBS, paper[1:])[1][1], many)
            self.assertIs(is_cover_paper(JOBS, 0, (0, many), paper), True)
            self.assertIsNone(least_takes(JOBS, 0, (1, many)))

    def test_just_a_thousand_takes(self):
        for bag, many in (((0, 0, 999, 0), 1000), ((0, 1, 333, 666), 1000), ((0, 0, 500, 499), 1000), ((0, 1, 0, 200), 201)):
            self.assertEqual(least_takes(GROW, 0, bag), many)
            paper = cover_paper(GROW, 0, bag)
            self.assertEqual(len(paper[2]), many)
            self.assertIs(is_cover_paper(GROW, 0, bag, paper), True)

    def test_more_than_a_thousand_takes(self):
        for bag in ((0, 0, 1000, 0), (0, 0, 500, 500), (0, 1, 1, 999), (0, 0, HUGE, 0), (0, 1, HUGE, HUGE)):
            self.assertIs(covers(GROW, 0, bag), True)
            for call in (least_takes, cover_paper):
                with self.assertRaises(TooMany) as caught:
                    call(GROW, 0, bag)
                self.assertEqual(caught.exception.limit, 1000)
        for bag in ((1, 1, 0, 0), (0, 2, HUGE, 0), (HUGE, 0, 0, 0)):
            self.assertIsNone(least_takes(GROW, 0, bag))
            self.assertEqual(cover_paper(GROW, 0, bag), ("bar", Tops(GROW).rows))

    def test_great_begins(self):
        program = GROW.with_begin((HUGE, 0, 0, 0))
        self.assertRaises(TooMany, covers, program, 0, (0, 0, 0, 0))
        program = JOBS.with_begin((HUGE, HUGE))
        self.assertEqual(least_takes(program, 0, (HUGE, HUGE)), 0)
        self.assertEqual(least_takes(program, 0, (HUGE - 1, HUGE)), 0)
        self.assertIsNone(least_takes(program.with_begin((HUGE, 0)), 0, (HUGE, 1)))
        self.assertEqual(least_takes(program.with_begin((HUGE, 0)), 0, (HUGE - 1, HUGE)), 1)

    def test_a_few_seconds_at_most(self):
        began = time.monotonic()
        for seed in range(40):
            program = onward(seed, procedures=3, modes=2, points=3) if seed % 2 else loose(seed)
            source = random.Random(seed)
            mode, wide = source.choice(Tops(program).rows)
            bag = tuple(source.choice((0, 7, 60, 500, HUGE)) if many == ANY else many for many in wide)
            try:
                paper = cover_paper(program, mode, bag)
            except TooMany as error:
                self.assertEqual(error.limit, 1000)
            else:
                self.assertIs(is_cover_paper(program, mode, bag, paper), True)
        self.assertLess(time.monotonic() - began, 60)

    def test_hundreds_of_takes(self):
        began = time.monotonic()
        for seed, mode, bag, many in (
            (500491, 1, (66, 65, 58), 128), (501045, 1, (84, 77, 35), 161), (1500107, 1, (11, 76, 21), 122),
            (1500755, 0, (116, 271, 132), 258), (2500216, 1, (87, 60, 76), 161), (3500975, 1, (38, 49, 59), 195),
        ):
            program = onward(seed, 3, 2, 3, 12)
            paper = cover_paper(program, mode, bag)
            self.assertEqual(len(paper[2]), many)
            self.assertIs(is_cover_paper(program, mode, bag, paper), True)
        self.assertLess(time.monotonic() - began, 20)

    def test_whole_numbers_of_takes(self):
        # Two q come of each p, and a p and a q of each q: there is no half of a p.
        double = Procedure("p", 3, ("post", 0, 1, "q", (0,)), ("post", 1, 2, "q", (0,)), ("leave", 2, (0,)))
        more = Procedure("q", 3, ("post", 0, 1, "p", (0,)), ("post", 1, 2, "q", (0,)), ("leave", 2, (0,)))
        program = Program(1, (0,), (1, 1), double, more)
        for first, second in ((1, 1), (1, 2), (3, 2), (7, 10), (370, 274), (370, 275), (370, 276), (2, 981)):
            many = first - 1 + second // 2 * 2
            self.assertEqual(least_takes(program, 0, (first, second)), many)
        self.assertRaises(TooMany, least_takes, program, 0, (1, 1002))

    def test_large_programs(self):
        for seed in range(3):
            for program in (full(seed), stairs(seed)):
                for mode, bag in itertools.product((0, 4), ((0, 1, 0, 2, 0), (HUGE, 0, 3, 0, HUGE))):
                    try:
                        paper = cover_paper(program, mode, bag)
                    except TooMany as error:
                        self.assertIn(error.limit, (400, 1000))
                    else:
                        self.assertIs(is_cover_paper(program, mode, bag, paper), True)
                        self.assertIs(covers(program, mode, bag), paper[0] == "plan")


class PapersTest(unittest.TestCase):
    def check(self, program, mode, bag, value, right):
        self.assertIs(is_cover_paper(program, mode, bag, value), right, value)

    def test_plans(self):
        for many in (7, 8, HUGE):
            paper = ("plan", 0, (("src", 0, {STOP: 1, POST: many}),))
            for wanted in (0, 6, 7, 8, HUGE):
                self.check(JOBS, 0, (0, wanted), paper, wanted <= many)
        self.check(JOBS, 0, (1, 0), ("plan", 0, ()), True)
        self.check(JOBS, 0, (1, 1), ("plan", 0, ()), False)
        job = ("job", 0, {("leave", "job", 0, 0): 1})
        self.check(JOBS, 0, (0, 0), ("plan", 0, (("src", 0, {STOP: 1, POST: 2}), job, job)), True)
        self.check(JOBS, 0, (0, 1), ("plan", 0, (("src", 0, {STOP: 1, POST: 2}), job, job)), False)
        self.check(JOBS, 0, (0, 0), ("plan", 0, (job,)), False)

    def test_modes_of_plans(self):
        paper = cover_paper(DOOR, 1, (1, 0, 1))
        self.check(DOOR, 1, (1, 0, 1), paper, True)
        self.check(DOOR, 0, (1, 0, 1), paper, False)
        self.check(DOOR, 1, (1, 1, 1), paper, False)
        self.check(DOOR, 1, (1, 0, 1), ("plan", 1, paper[2]), False)
        self.check(DOOR, 1, (1, 0, 1), ("plan", 0, paper[2][:1]), False)
        self.check(DOOR, 1, (1, 0, 1), ("plan", 0, paper[2][::-1]), False)

    def test_uses_of_plans(self):
        name, end, uses = cover_paper(DOOR, 1, (0, 1, 1))[2][0]
        for rule in uses:
            for many in (0, 2, True, -1, None):
                self.check(DOOR, 1, (0, 1, 1), ("plan", 0, ((name, end, {**uses, rule: many}),)), False)
            less = {other: uses[other] for other in uses if other != rule}
            self.check(DOOR, 1, (0, 1, 1), ("plan", 0, ((name, end, less),)), False)
        turned = {rule: uses[rule] for rule in list(uses)[::-1]}
        self.check(DOOR, 1, (0, 1, 1), ("plan", 0, ((name, end, turned),)), True)

    def test_bars(self):
        self.check(DOOR, 1, (1, 1, 0), ("bar", TOPS_OF_DOOR), True)
        self.check(DOOR, 1, (1, 0, 1), ("bar", TOPS_OF_DOOR), False)
        self.check(DOOR, 1, (1, 1, 0), ("bar", ((0, (0, 0, 0)), *TOPS_OF_DOOR)), True)
        self.check(DOOR, 1, (1, 1, 0), ("bar", TOPS_OF_DOOR[::-1]), False)
        self.check(DOOR, 1, (1, 1, 0), ("bar", list(TOPS_OF_DOOR)), False)
        self.check(DOOR, 1, (1, 1, 0), ("bar", TOPS_OF_DOOR[1:]), False)
        self.check(DOOR, 1, (1, 1, 0), ("bar", TOPS_OF_DOOR + ((1, (1, 1, 0)),)), False)
        self.check(DOOR, 1, (1, 1, 0), ("bar", ()), False)
        for wide, right in (((1, ANY), False), ((1, 7), False), ((ANY, ANY), False)):
            self.check(JOBS, 0, (1, 1), ("bar", ((0, wide),)), right)
        self.check(JOBS, 0, (2, 0), ("bar", ((0, (1, ANY)),)), True)
        self.check(JOBS, 0, (2, 0), ("bar", ((0, (0, ANY)), (0, (1, 3)))), True)
        self.check(JOBS, 0, (1, 4), ("bar", ((0, (0, ANY)), (0, (1, 3)))), True)

    def test_just_one_kind(self):
        for mode, bag in itertools.product((0, 1), itertools.product(range(2), repeat=3)):
            covered = covers(DOOR, mode, bag)
            self.check(DOOR, mode, bag, ("bar", TOPS_OF_DOOR), not covered)
            self.assertEqual(cover_paper(DOOR, mode, bag)[0], "plan" if covered else "bar")

    def test_other_values(self):
        plan = ("plan", 0, ())
        self.check(DOOR, 0, (0, 0, 0), plan, True)
        for value in [list(plan), plan[:2], plan + ((),), ("plans", 0, ()), ("bar", 0, ()), ("plan", (0, ())), (0, ()), (),
                      ("plan",), ("bar",), ("plan", 0, []), (None, 0, ()), ("PLAN", 0, ()), [*plan], {"plan": 0}, "plan",
                      ("plan", True, ()), ("plan", 0, None), (("plan", 0, ()),), *odd_values()]:
            self.check(DOOR, 0, (0, 0, 0), value, False)
        for value in [("plan", TOPS_OF_DOOR), ("bar", *TOPS_OF_DOOR), ("bar", TOPS_OF_DOOR, ()), TOPS_OF_DOOR,
                      ("bar", (TOPS_OF_DOOR,)), ("bar", None), (("bar", TOPS_OF_DOOR),), *odd_values()]:
            self.check(DOOR, 1, (1, 1, 0), value, False)
        for value in odd_values():
            self.check(DOOR, 1, (1, 1, 0), ("bar", value), False)
            self.check(DOOR, 1, (1, 1, 0), ("bar", (value,)), False)
            self.check(DOOR, 0, (0, 0, 0), ("plan", value, ()), type(value) is int and value == 0)
            self.check(DOOR, 0, (0, 0, 0), ("plan", 0, value), False)
            self.check(DOOR, 0, (0, 0, 0), (value, 0, ()), False)


class ErrorsTest(unittest.TestCase):
    def test_in_their_order(self):
        for value in odd_values():
            for call in CALLS:
                if not isinstance(value, Program):
                    with self.assertRaises(InvalidProgram) as caught:
                        call(value, None, None)
                    self.assertIs(type(caught.exception), InvalidProgram)
                if type(value) is not int or value not in (0, 1):
                    with self.assertRaises(InvalidMode) as caught:
                        call(DOOR, value, None)
                    self.assertIs(type(caught.exception), InvalidMode)
                with self.assertRaises(InvalidBag) as caught:
                    call(DOOR, 0, value)
                self.assertIs(type(caught.exception), InvalidBag)
        for call in CALLS:
            for bag in ((0, 0), (0, 0, 0, 0), (0, 0, ANY), (0, True, 0), [0, 0, 0]):
                self.assertRaises(InvalidBag, call, DOOR, 0, bag)
            self.assertRaises(InvalidMode, call, DOOR, 2, (0, 0, 0))

    def test_too_many_comes_last(self):
        tops = TURNS.with_begin((HUGE, 0))
        taken = MANY.with_begin((0, 0, 0, 0, 1))
        for call in (covers, least_takes, cover_paper):
            for program in (tops, taken):
                nothing = (0,) * len(program)
                with self.assertRaises(TooMany) as caught:
                    call(program, 0, nothing)
                self.assertEqual(caught.exception.limit, 400)
                self.assertRaises(InvalidMode, call, program, 1, nothing)
                self.assertRaises(InvalidBag, call, program, 0, nothing[1:])

    def test_judges_do_not_ask_for_the_tops(self):
        # There are far more than 400 tops, but a plan is a plan, and a bar is a bar.
        program = TURNS.with_begin((HUGE, 0))
        uses = {("leave", "p", 1, 0): 1, ("post", "p", 0, 0, 0): 1}
        paper = ("plan", 0, (("p", 0, uses),))
        self.assertIs(is_cover_paper(program, 0, (HUGE - 1, 1), paper), True)
        self.assertIs(is_cover_paper(program, 0, (HUGE, 1), paper), False)
        self.assertIs(is_cover_paper(TURNS, 0, (2, 0), ("bar", ((0, (1, ANY)),))), True)

    def test_nothing_is_changed_and_nothing_is_kept(self):
        paper = ("plan", 0, (("src", 0, {POST: 7, STOP: 1}),))
        kept = copy.deepcopy(paper)
        self.assertIs(is_cover_paper(JOBS, 0, (0, 7), paper), True)
        self.assertEqual((paper, list(paper[2][0][2])), (kept, list(kept[2][0][2])))
        told = cover_paper(GROW, 0, (0, 0, 3, 3))
        again = copy.deepcopy(told)
        told[2][1][2].clear()
        self.assertEqual([uses for _, _, uses in told[2]][2:], [uses for _, _, uses in again[2]][2:])
        self.assertEqual(cover_paper(GROW, 0, (0, 0, 3, 3)), again)


if __name__ == "__main__":
    unittest.main()
