"""[0.20] and stage 9: plans."""

import copy
import random
import unittest

from postedbag.base.programs import Program
from postedbag.errors import InvalidPlan, InvalidProgram, InvalidRun, TooMany
from postedbag.know.uses import is_uses, least_uses, posts_of, uses_for
from postedbag.know.ways import good_ways
from postedbag.plan.plans import end_of, is_plan, joined_plans, plan_of, run_of
from postedbag.run.runs import Run, options
from tests.randoms import loose, onward
from tests.samples import DOOR, HUGE, JOBS, TREE, odd_values

JOB = {("leave", "job", 0, 0): 1}
STOP, POST = ("leave", "src", 1, 0), ("post", "src", 0, 0, 0)
FAR = {STOP: 1, POST: 10 ** 30}
PLAN = (0, (("src", 0, FAR), ("job", 0, JOB)))
OPENING = ("open", 1, {("go", "open", 0, 0, 1, 1): 1, ("post", "open", 1, 1, 1): 1, ("leave", "open", 2, 1): 1})
SHUTTING = ("shut", 0, {("go", "shut", 0, 1, 0, 0): 1, ("leave", "shut", 1, 0): 1})
WORKING = ("work", 1, {("post", "work", 0, 1, 1): 1, ("leave", "work", 1, 1): 1})


def random_run(program, seed, most):
    """A run at random that is between tasks."""
    source = random.Random(seed)
    run = Run(program, source.choice(program.starts))
    last = run
    while len(run) < most:
        found = options(program, run.situation)
        if not found:
            break
        run = run + source.randrange(len(found))
        if run.is_between:
            last = run
    return last


def random_plan(program, seed, takes):
    """A plan at random, with the mode and the bag behind it."""
    source = random.Random(seed)
    start = source.choice(program.starts)
    mode, bag, rows = start, program.begin, ()
    ways = [way for way in good_ways(program) if way[1] == 0]
    for _ in range(takes):
        can_be = [way for way in ways if way[2] == mode and bag[program.names.index(way[0])]]
        if not can_be:
            break
        way = source.choice(can_be)
        uses = uses_for(program, way, tuple(source.choice((0, 0, 1, 5)) for _ in bag)) or least_uses(program, way)
        rows += ((way[0], way[3], uses),)
        posts = posts_of(program, uses)
        bag = tuple(many + more - (name == way[0]) for many, more, name in zip(bag, posts, program.names))
        mode = way[3]
    return (start, rows), (mode, bag)


class IsPlanTest(unittest.TestCase):
    def check(self, program, value, right):
        self.assertIs(is_plan(program, value), right, value)

    def test_no_takes(self):
        self.check(DOOR, (0, ()), True)
        self.assertEqual(end_of(DOOR, (0, ())), (0, (1, 0, 1)))
        for start in (1, 2, -1, True, False, None, "0", (0,), HUGE):
            self.check(DOOR, (start, ()), False)
        self.check(DOOR.with_starts((1,)), (0, ()), False)
        self.check(DOOR.with_starts((1,)), (1, ()), True)

    def test_tasks_that_wait(self):
        self.check(DOOR, (0, (OPENING,)), True)
        self.assertEqual(end_of(DOOR, (0, (OPENING,))), (1, (0, 1, 1)))
        self.check(DOOR, (0, (OPENING, WORKING, SHUTTING, OPENING, WORKING)), True)
        self.assertEqual(end_of(DOOR, (0, (OPENING, WORKING, SHUTTING, OPENING, WORKING))), (1, (1, 0, 0)))
        self.check(DOOR, (0, (OPENING, SHUTTING)), True)
        self.check(DOOR, (0, (OPENING, SHUTTING, OPENING)), False)
        self.check(DOOR, (0, (OPENING, WORKING, WORKING)), False)
        self.check(DOOR, (0, (SHUTTING,)), False)
        self.check(DOOR, (0, (WORKING,)), False)
        self.check(DOOR, (0, (OPENING, OPENING)), False)
        self.check(DOOR.with_begin((2, 0, 0)), (0, (OPENING, OPENING)), False)
        self.check(DOOR.with_begin((0, 1, 0)).with_starts((1,)), (1, (WORKING,)), True)

    def test_a_task_can_be_taken_as_often_as_it_waits(self):
        job = ("job", 0, JOB)
        for waiting in range(4):
            program = JOBS.with_begin((0, waiting))
            for many in range(6):
                self.check(program, (0, (job,) * many), many <= waiting)
        self.check(JOBS, (0, (("src", 0, {STOP: 1, POST: 3}), job, job, job)), True)
        self.check(JOBS, (0, (("src", 0, {STOP: 1, POST: 3}), job, job, job, job)), False)
        self.check(JOBS, (0, (job, ("src", 0, {STOP: 1, POST: 3}))), False)

    def test_great_numbers(self):
        self.assertEqual(end_of(JOBS, PLAN), (0, (0, 10 ** 30 - 1)))
        program = JOBS.with_begin((2, HUGE))
        end = end_of(program, (0, (("src", 0, {STOP: 1, POST: HUGE}),) * 2 + (("job", 0, JOB),)))
        self.assertEqual(end, (0, (0, 3 * HUGE - 1)))

    def test_wrong_uses(self):
        for uses in [*odd_values(), {}, {STOP: 2}, {POST: 1}, {STOP: True}, {STOP: 1, POST: 0}, JOB, [STOP],
                     {**FAR, ("leave", "job", 0, 0): 1}]:
            self.check(JOBS, (0, (("src", 0, uses),)), False)
        # The uses of another end, or of another mode.
        self.check(DOOR, (0, (("open", 0, OPENING[2]),)), False)
        self.check(DOOR.with_starts((1,)), (1, (OPENING,)), False)

    def test_other_forms(self):
        take = ("src", 0, FAR)
        self.check(JOBS, (0, (take,)), True)
        for value in ([0, (take,)], (0, [take]), (0, take), (0, (list(take),)), ((take,), 0), (0, (take,), ()), (0,), (),
                      (0, ((0, "src", FAR),)), (0, (take[:2],)), (0, (take + (0,),)), (0, (("src", FAR, 0),)),
                      (0, ((("src",), 0, FAR),)), (0, (("src", (0,), FAR),)), (0, {}), (0, None), {0: (take,)}):
            self.check(JOBS, value, False)
        for value in odd_values():
            self.check(JOBS, value, False)
            self.check(JOBS, (0, value), False)
            self.check(JOBS, (0, (value,)), False)
            self.check(JOBS, (0, (take, value)), False)
            self.check(JOBS, (0, ((value, 0, FAR),)), value == "src")
            is_zero = type(value) is int and value == 0
            self.check(JOBS, (value, (take,)), is_zero)
            self.check(JOBS, (0, (("src", value, FAR),)), is_zero)

    def test_plans_at_random(self):
        for seed in range(80):
            program = onward(seed) if seed % 2 else loose(seed)
            plan, end = random_plan(program, seed, seed % 7)
            self.check(program, plan, True)
            self.assertEqual(end_of(program, plan), end)
            start, takes = plan
            mode, bag = start, list(program.begin)
            for name, behind, uses in takes:
                at = program.names.index(name)
                self.assertGreater(bag[at], 0)
                self.assertTrue(is_uses(program, (name, 0, mode, behind), uses))
                bag = [many + more for many, more in zip(bag, posts_of(program, uses))]
                bag[at] -= 1
                mode = behind
            self.assertEqual((mode, tuple(bag)), end)


class RunsTest(unittest.TestCase):
    def test_there_and_back(self):
        found = 0
        for seed in range(150):
            program = onward(seed) if seed % 2 else loose(seed)
            run = random_run(program, seed, 60)
            plan = plan_of(run)
            self.assertIs(is_plan(program, plan), True)
            self.assertEqual(end_of(program, plan), (run.mode, run.bag))
            self.assertEqual(tuple(take[0] for take in plan[1]), run.taken)
            self.assertEqual(plan[0], run.start)
            again = run_of(program, plan)
            self.assertEqual((plan_of(again), len(again)), (plan, len(run)))
            self.assertEqual((again.mode, again.bag, again.taken), (run.mode, run.bag, run.taken))
            for _, _, uses in plan[1]:
                self.assertEqual(list(uses), sorted(uses))
            found += len(run) > 3
        self.assertGreater(found, 40)

    def test_no_steps(self):
        for start in (0, 1):
            program = DOOR.with_starts((0, 1))
            self.assertEqual(plan_of(Run(program, start)), (start, ()))
            self.assertEqual(run_of(program, (start, ())), Run(program, start))

    def test_only_between_tasks(self):
        for choices in ((0,), (0, 1), (0, 1, 0), (0, 1, 0, 0)):
            with self.assertRaises(InvalidRun) as caught:
                plan_of(Run(TREE, 0, *choices))
            self.assertIs(type(caught.exception), InvalidRun)
        self.assertEqual(len(plan_of(Run(TREE, 0, 0, 1, 0, 0, 0))[1]), 1)
        for value in [*odd_values(), PLAN, (0, ()), TREE, (TREE, 0, ())]:
            with self.assertRaises(InvalidRun) as caught:
                plan_of(value)
            self.assertIs(type(caught.exception), InvalidRun)

    def test_a_thousand_steps(self):
        for many in (997, 998):
            plan = (0, (("src", 0, {STOP: 1, POST: many}),))
            run = run_of(JOBS, plan)
            self.assertEqual((len(run), run.bag, plan_of(run)), (many + 2, (0, many), plan))
        for many in (999, 1000, HUGE):
            with self.assertRaises(TooMany) as caught:
                run_of(JOBS, (0, (("src", 0, {STOP: 1, POST: many}),)))
            self.assertEqual(caught.exception.limit, 1000)
        # Each take is a step, too.
        program = JOBS.with_begin((0, 1000))
        self.assertEqual(len(run_of(program, (0, (("job", 0, JOB),) * 500))), 1000)
        self.assertRaises(TooMany, run_of, program, (0, (("job", 0, JOB),) * 501))
        # What is no plan comes ahead of too many steps.
        self.assertRaises(InvalidPlan, run_of, program, (0, (("job", 0, JOB),) * 1001))

    def test_long_runs(self):
        for seed in range(12):
            program = JOBS.with_begin((3, 2)) if seed % 2 else TREE.with_begin((9, 2))
            run = random_run(program, seed, 1000)
            self.assertEqual(plan_of(run_of(program, plan_of(run))), plan_of(run))


class JoinedTest(unittest.TestCase):
    def test_takes_that_fit(self):
        whole = (0, (OPENING, WORKING, SHUTTING, OPENING))
        for at in range(5):
            joined = joined_plans(DOOR, (0, whole[1][:at]), whole[1][at:])
            self.assertEqual(joined, whole)

    def test_takes_that_do_not_fit(self):
        for takes in ((WORKING,), (OPENING, OPENING), (SHUTTING,), (OPENING, WORKING, WORKING), (OPENING, None)):
            with self.assertRaises(InvalidPlan) as caught:
                joined_plans(DOOR, (0, ()), takes)
            self.assertIs(type(caught.exception), InvalidPlan)
        self.assertRaises(InvalidPlan, joined_plans, DOOR, (0, (OPENING,)), (OPENING,))

    def test_other_values(self):
        for value in odd_values():
            self.assertRaises(InvalidPlan, joined_plans, DOOR, value, (OPENING,))
            self.assertRaises(InvalidPlan, joined_plans, DOOR, (0, ()), value)
            self.assertRaises(InvalidPlan, joined_plans, DOOR, (0, ()), (value,))
        for takes in ([OPENING], OPENING, (0, (OPENING,)), {0: OPENING}, None, [], {}):
            self.assertRaises(InvalidPlan, joined_plans, DOOR, (0, ()), takes)
        # The plan alone has to be one, also if both together are.
        self.assertRaises(InvalidPlan, joined_plans, DOOR, [0, ()], (OPENING,))
        self.assertRaises(InvalidPlan, joined_plans, DOOR, (0, (WORKING,)), ())

    def test_nothing_is_changed_or_shared(self):
        takes = tuple((name, end, {rule: uses[rule] for rule in list(uses)[::-1]}) for name, end, uses in (OPENING, WORKING))
        plan = (0, takes[:1])
        kept = copy.deepcopy((plan, takes))
        joined = joined_plans(DOOR, plan, takes[1:])
        for _, _, uses in joined[1]:
            self.assertEqual(list(uses), sorted(uses))
            uses.clear()
        self.assertEqual((plan, takes), kept)
        self.assertEqual([list(uses) for _, _, uses in takes], [list(uses) for _, _, uses in kept[1]])


class ErrorsTest(unittest.TestCase):
    def test_the_program_comes_first(self):
        for value in odd_values():
            if not isinstance(value, Program):
                for call in (lambda: is_plan(value, None), lambda: end_of(value, None), lambda: run_of(value, None),
                             lambda: joined_plans(value, None, None)):
                    with self.assertRaises(InvalidProgram) as caught:
                        call()
                    self.assertIs(type(caught.exception), InvalidProgram)

    def test_no_plan(self):
        for value in [*odd_values(), (0,), (1, ()), (0, (WORKING,)), [0, ()], (0, [])]:
            for call in (end_of, run_of):
                with self.assertRaises(InvalidPlan) as caught:
                    call(DOOR, value)
                self.assertIs(type(caught.exception), InvalidPlan)

    def test_what_is_passed_is_not_changed(self):
        kept = copy.deepcopy(PLAN)
        for call in (is_plan, end_of):
            call(JOBS, PLAN)
        run_of(JOBS, (0, (("src", 0, {POST: 3, STOP: 1}),)))
        self.assertEqual(PLAN, kept)

    def test_a_plan_of_a_run_gives_no_access(self):
        run = Run(JOBS, 0, 0, 0, 1)
        plan_of(run)[1][0][2].clear()
        self.assertEqual(plan_of(run), (0, (("src", 0, {STOP: 1, POST: 1}),)))


if __name__ == "__main__":
    unittest.main()
