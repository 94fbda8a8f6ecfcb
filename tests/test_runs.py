"""[0.11] to [0.13] and stage 5: situations, options and runs."""

import copy
import itertools
import random
import unittest

from postedbag.base.programs import Procedure, Program
from postedbag.errors import InvalidNumber, InvalidOperation, InvalidProgram, InvalidRun, TooMany
from postedbag.run.runs import Run, is_situation, options
from tests.randoms import full, loose, onward
from tests.samples import DOOR, HUGE, JOBS, LEAVE, TREE, odd_values
from tests.words import options_by_words

# A calls B and C, B calls C, C calls itself; D is never called or posted.
CALLS = Program(
    2, (0, 1), (1, 0, 0, 0),
    Procedure("a", 2, ("call", 0, 1, "b", (0,)), ("call", 0, 1, "c", (1,)), ("leave", 1, (0, 1))),
    Procedure("b", 1, ("post", 0, 0, "b", (0,)), ("call", 0, 0, "c", (0, 1)), ("leave", 0, (0, 1))),
    Procedure("c", 3, ("call", 0, 2, "c", (0, 1)), ("go", 0, 1, ((0, 1), (1, 0), (1, 1))), ("leave", 1, (0,)),
              ("leave", 2, (0, 1))),
    Procedure("d", 1, ("call", 0, 0, "a", (0,)), LEAVE),
)
BETWEEN = (0, (1, 0, 0, 0), (), None)


def with_part(value, at, part):
    """A tuple with another part."""
    return value[:at] + (part,) + value[at + 1:]


def walk(program, seed, most):
    """A run with choices at random, made step by step, that prefers to come to ends."""
    source = random.Random(seed)
    run = Run(program, source.choice(program.starts))
    for _ in range(most):
        found = options(program, run.situation)
        if not found:
            break
        run = run + source.randrange(len(found))
    return run


class SituationTest(unittest.TestCase):
    def check(self, value, right):
        self.assertIs(is_situation(CALLS, value), right, value)

    def test_between_tasks(self):
        for mode, bag in itertools.product((0, 1), ((0, 0, 0, 0), (1, 2, 3, HUGE))):
            self.check((mode, bag, (), None), True)

    def test_modes(self):
        for mode in (-1, 2, HUGE, True, False, None, "0", (0,), [0]):
            self.check(with_part(BETWEEN, 0, mode), False)

    def test_bags(self):
        for bag in ((0, 0, 0), (0,) * 5, (0, 0, 0, -1), (0, True, 0, 0), (0, None, 0, 0), [0, 0, 0, 0], (), None, 0):
            self.check(with_part(BETWEEN, 1, bag), False)

    def test_sites_and_spots_between_tasks(self):
        self.check((0, BETWEEN[1], (("a", 0),), None), False)
        for sites in (None, [], {}, "", 0, False, ((),), (None,)):
            self.check(with_part(BETWEEN, 2, sites), False)
        for spot in ((), False, 0, "", [], ("a",)):
            self.check(with_part(BETWEEN, 3, spot), False)

    def test_spots_without_open_calls(self):
        for name, points in (("a", 2), ("b", 1), ("c", 3), ("d", 1)):
            for point in range(-2, 8):
                self.check((1, BETWEEN[1], (), (name, point)), 0 <= point < points)
        for spot in (("e", 0), (0, "a"), ("a", True), ("a", False), ("a", None), ("a", "0"), ("a", 0, 0), ["a", 0],
                     (["a"], 0), ("a", (0,)), "a0", (CALLS["a"], 0), (None, 0), ("", 0)):
            self.check((1, BETWEEN[1], (), spot), False)

    def test_open_calls(self):
        for sites, names in (
            ((("a", 0),), "b"), ((("a", 1),), "c"), ((("b", 1),), "c"), ((("c", 0),), "c"), ((("d", 0),), "a"),
            ((("a", 0), ("b", 1)), "c"), ((("a", 0), ("b", 1), ("c", 0)), "c"), ((("c", 0),) * 9, "c"),
            ((("d", 0), ("a", 0), ("b", 1)), "c"), ((("d", 0), ("a", 1), ("c", 0)), "c"),
        ):
            for name in "abcd":
                self.check((0, BETWEEN[1], sites, (name, 0)), name in names)

    def test_the_first_site_can_be_of_any_procedure(self):
        # No run takes a task d, but a task is told by the name of any procedure.
        self.check((0, BETWEEN[1], (("d", 0),), ("a", 1)), True)
        self.check((0, BETWEEN[1], (), ("d", 0)), True)

    def test_sites_that_do_not_follow_one_another(self):
        for sites in ((("a", 1), ("b", 1)), (("a", 0), ("c", 0)), (("b", 1), ("a", 1)), (("a", 0), ("a", 0)),
                      (("c", 0), ("b", 1)), (("b", 1), ("d", 0))):
            for name in "abcd":
                self.check((0, BETWEEN[1], sites, (name, 0)), False)

    def test_sites_that_are_no_calls(self):
        for site in (("a", 2), ("b", 0), ("b", 2), ("c", 1), ("c", 2), ("a", 3), ("a", -1), ("a", -3), ("e", 0),
                     ("a", True), ("a", False), ("a", None), ("a",), ("a", 0, 0), ["a", 0], "a0", None, (), (["a"], 0)):
            for name in "abcd":
                self.check((0, BETWEEN[1], (site,), (name, 0)), False)
                self.check((0, BETWEEN[1], (("d", 0), site), (name, 0)), False)

    def test_other_forms(self):
        right = (0, BETWEEN[1], (("a", 0),), ("b", 0))
        self.check(right, True)
        for order in itertools.permutations(range(4)):
            if order != (0, 1, 2, 3):
                self.check(tuple(right[at] for at in order), False)
        for value in (right[:3], right + (None,), list(right), (right,), (*right[:2], list(right[2]), right[3])):
            self.check(value, False)
        for value in odd_values():
            self.check(value, False)
            is_mode = type(value) is int and 0 <= value < 2
            for at in range(4):
                self.check(with_part(right, at, value), at == 0 and is_mode)
                self.check(with_part(BETWEEN, at, value), at == 0 and is_mode or at == 3 and value is None)

    def test_the_mode_and_the_waiting_tasks_do_not_matter(self):
        # The call at the site cannot be made in this mode, and the task could never wait.
        self.check((1, (0, 0, 0, 7), (("a", 0),), ("b", 0)), True)

    def test_many_open_calls(self):
        self.check((0, BETWEEN[1], (("c", 0),) * 1000, ("c", 1)), True)
        self.check((0, BETWEEN[1], (("c", 0),) * 999 + (("a", 0),), ("c", 1)), False)


class OptionsTest(unittest.TestCase):
    def test_between_tasks_in_the_order_of_the_procedures(self):
        self.assertEqual(options(CALLS, (1, (2, 0, 1, HUGE), (), None)), (
            (1, (1, 0, 1, HUGE), (), ("a", 0)), (1, (2, 0, 0, HUGE), (), ("c", 0)),
            (1, (2, 0, 1, HUGE - 1), (), ("d", 0)),
        ))
        self.assertEqual(options(CALLS, (1, (0, 0, 0, 0), (), None)), ())

    def test_the_moves_of_a_task_in_their_order(self):
        bag = (0, 0, 0, 0)
        self.assertEqual(options(CALLS, (1, bag, (), ("c", 0))), (
            (1, bag, (("c", 0),), ("c", 0)), (0, bag, (), ("c", 1)), (1, bag, (), ("c", 1)),
        ))
        self.assertEqual(options(CALLS, (0, bag, (), ("c", 0))), (
            (0, bag, (("c", 0),), ("c", 0)), (1, bag, (), ("c", 1)),
        ))

    def test_posts_and_great_bags(self):
        self.assertEqual(options(CALLS, (0, (0, HUGE, 0, 0), (), ("b", 0)))[0], (0, (0, HUGE + 1, 0, 0), (), ("b", 0)))

    def test_leaves(self):
        bag = (5, 6, 7, 8)
        self.assertEqual(options(CALLS, (0, bag, (), ("c", 1))), ((0, bag, (), None),))
        self.assertEqual(options(CALLS, (1, bag, (), ("c", 1))), ())
        self.assertEqual(options(CALLS, (0, bag, (("a", 0), ("b", 1)), ("c", 1))), ((0, bag, (("a", 0),), ("b", 0)),))
        self.assertEqual(options(CALLS, (0, bag, (("a", 0), ("b", 1), ("c", 0)), ("c", 1))),
                         ((0, bag, (("a", 0), ("b", 1)), ("c", 2)),))
        self.assertEqual(options(CALLS, (1, bag, (("a", 0),), ("b", 0)))[-1], (1, bag, (), ("a", 1)))

    def test_a_task_with_no_option(self):
        self.assertEqual(options(DOOR, (1, (0, 0, 0), (), ("open", 0))), ())
        self.assertEqual(options(Program(1, (0,), (1,), Procedure("p", 1)), (0, (0,), (), ("p", 0))), ())

    def test_equal_moves_are_different_options(self):
        program = Program(2, (0,), (1,), Procedure("p", 1, ("go", 0, 0, ((0, 0), (0, 1))), ("go", 0, 0, ((0, 0),)), LEAVE,
                                                   LEAVE))
        self.assertEqual(options(program, (0, (0,), (), ("p", 0))), (
            (0, (0,), (), ("p", 0)), (1, (0,), (), ("p", 0)), (0, (0,), (), ("p", 0)), (0, (0,), (), None),
            (0, (0,), (), None),
        ))

    def test_as_by_the_words(self):
        for seed in range(40):
            for program in (loose(seed), onward(seed), full(seed)):
                run = walk(program, seed, 60)
                for situation in run.situations:
                    self.assertTrue(is_situation(program, situation))
                    self.assertEqual(options(program, situation), options_by_words(program, situation))

    def test_errors(self):
        for value in odd_values():
            if not isinstance(value, Program):
                for call in (is_situation, options):
                    with self.assertRaises(InvalidProgram) as caught:
                        call(value, BETWEEN)
                    self.assertIs(type(caught.exception), InvalidProgram)
                    with self.assertRaises(InvalidProgram):
                        call(value, None)
            with self.assertRaises(InvalidOperation) as caught:
                options(CALLS, value)
            self.assertIs(type(caught.exception), InvalidOperation)
        with self.assertRaises(InvalidOperation):
            options(CALLS, (0, (1, 0, 0), (), None))

    def test_nothing_is_changed(self):
        lists = [[0, [1, 0], [], None], (0, [1, 0], (), None), (0, (1, 0), [["src", 0]], ["job", 0])]
        kept = copy.deepcopy(lists)
        for value in lists:
            self.assertIs(is_situation(JOBS, value), False)
        self.assertEqual(lists, kept)


class RunTest(unittest.TestCase):
    def test_properties(self):
        run = Run(TREE, 0, 0, 1, 0, 0, 0, 0)
        self.assertEqual((run.program, run.start, run.choices), (TREE, 0, (0, 1, 0, 0, 0, 0)))
        self.assertEqual(run.situations, (
            (0, (1, 0), (), None), (0, (0, 0), (), ("tree", 0)), (0, (0, 0), (("tree", 1),), ("tree", 0)),
            (0, (0, 0), (), ("tree", 1)), (0, (0, 1), (), ("tree", 2)), (0, (0, 1), (), None), (0, (0, 0), (), ("job", 0)),
        ))
        self.assertEqual(run.situation, run.situations[-1])
        self.assertEqual((run.mode, run.bag, run.taken, run.is_between), (0, (0, 0), ("tree", "job"), False))
        self.assertEqual((len(run), str(run)), (6, "run of 6 steps, 2 tasks"))

    def test_no_steps(self):
        program = CALLS.with_begin((1, 2, 3, HUGE))
        for start in (0, 1):
            run = Run(program, start)
            self.assertEqual((run.choices, run.situations), ((), ((start, (1, 2, 3, HUGE), (), None),)))
            self.assertEqual((run.mode, run.bag, run.taken, run.is_between), (start, (1, 2, 3, HUGE), (), True))
            self.assertEqual((len(run), str(run)), (0, "run of 0 steps, 0 tasks"))
            self.assertEqual(run.back(many=0), run)

    def test_at_once_and_step_by_step(self):
        for seed in range(40):
            for program in (loose(seed), onward(seed), CALLS, DOOR):
                run = walk(program, seed, 50)
                whole = Run(program, run.start, *run.choices)
                self.assertEqual(whole, Run.of(program, run.start, run.choices))
                self.assertIs(type(Run.of(program, run.start, run.choices)), Run)
                self.assertEqual(run, whole)
                self.assertEqual(run.situations, whole.situations)
                self.assertEqual(run.taken, whole.taken)
                self.assertEqual(str(run), f"run of {len(run.choices)} steps, {len(run.taken)} tasks")
                situations = [(run.start, program.begin, (), None)]
                for choice in run.choices:
                    situations.append(options_by_words(program, situations[-1])[choice])
                self.assertEqual(run.situations, tuple(situations))
                taken = [after[3][0] for before, after in zip(situations, situations[1:]) if before[3] is None]
                self.assertEqual(run.taken, tuple(taken))
                self.assertIs(run.is_between, situations[-1][3] is None)
                for many in {0, len(run) // 2, len(run)}:
                    left = len(run) - many
                    back = run.back(many=many)
                    self.assertEqual(back, Run.of(program, run.start, run.choices[:left]))
                    self.assertEqual(back.situations, run.situations[:left + 1])

    def test_one_step_back(self):
        run = Run(TREE, 0, 0, 1, 0)
        self.assertEqual(run.back(), Run(TREE, 0, 0, 1))
        self.assertEqual(run.back().back() + 1, run.back())

    def test_it_never_changes(self):
        run = Run(TREE, 0, 0, 1)
        longer, shorter = run + 0, run.back()
        self.assertEqual((len(run), len(longer), len(shorter)), (2, 3, 1))
        self.assertEqual((run.choices, len(run.situations)), ((0, 1), 3))
        for name in ("program", "start", "choices", "situation", "situations", "mode", "bag", "taken", "is_between"):
            with self.assertRaises(AttributeError):
                setattr(run, name, getattr(run, name))
        run += 0
        self.assertEqual((run, len(longer)), (longer, 3))

    def test_a_thousand_choices(self):
        choices = (0,) + (0,) * 999
        run = Run(JOBS, 0, *choices)
        self.assertEqual((len(run), run.bag), (1000, (0, 999)))
        self.assertEqual(Run.of(JOBS, 0, choices), run)
        for call in (lambda: Run(JOBS, 0, *choices, 0), lambda: Run.of(JOBS, 0, choices + (0,)), lambda: run + 0,
                     lambda: Run.of(JOBS, 0, choices * 3)):
            with self.assertRaises(TooMany) as caught:
                call()
            self.assertEqual(caught.exception.limit, 1000)
        self.assertEqual(run.back(many=1000), Run(JOBS, 0))
        self.assertEqual(run.back() + 1, Run(JOBS, 0, *choices[:-1], 1))

    def test_a_thousand_steps_one_by_one(self):
        run = Run(TREE, 0) + 0
        for _ in range(999):
            run = run + 1
        self.assertEqual(len(run.situation[2]), 999)
        with self.assertRaises(TooMany):
            run + 1

    def test_wrong_choices_come_ahead_of_too_many(self):
        for choices in ((0,) * 1000 + (2,), (0,) * 2000 + (None,), (2,) + (0,) * 1000):
            with self.assertRaises(InvalidRun):
                Run.of(JOBS, 0, choices)
            with self.assertRaises(InvalidRun):
                Run(JOBS, 0, *choices)
        run = Run(JOBS, 0, *[0] * 1000)
        for value in (2, -1, True, None):
            with self.assertRaises(InvalidOperation):
                run + value

    def refuse(self, program, start, choices):
        for call in (lambda: Run(program, start, *choices), lambda: Run.of(program, start, tuple(choices))):
            with self.assertRaises(InvalidRun) as caught:
                call()
            self.assertIs(type(caught.exception), InvalidRun)

    def test_wrong_starts(self):
        for start in (1, -1, 2, HUGE, True, False, None, "0", (0,), [0], 0.0):
            self.refuse(DOOR, start, ())
            self.refuse(DOOR, start, (0,))
            self.refuse(DOOR, start, ("wrong", None))
        self.refuse(DOOR.with_starts((1,)), 0, ())
        self.assertEqual(Run(DOOR.with_starts((1,)), 1).mode, 1)

    def test_wrong_choices(self):
        for choice in (1, 2, -1, HUGE, True, False, None, "0", (0,), [0], {}):
            self.refuse(JOBS, 0, (choice,))
            if choice != 1 or choice is True:
                self.refuse(JOBS, 0, (0, choice))
        self.refuse(JOBS, 0, (0, 1, 0))
        for value in odd_values():
            if value != 0 or value is False:
                self.refuse(JOBS, 0, (value,))

    def test_choices_that_are_no_tuple(self):
        for choices in ([0], [], {}, None, 0, "", "00", True, JOBS, {0: 0}):
            with self.assertRaises(InvalidRun):
                Run.of(JOBS, 0, choices)
            with self.assertRaises(InvalidRun):
                Run.of(JOBS, None, choices)
        with self.assertRaises(InvalidRun):
            Run(JOBS, 0, (0, 1))

    def test_the_program_comes_first(self):
        for value in odd_values():
            if not isinstance(value, Program):
                for call in (lambda: Run(value, 0), lambda: Run(value, None, "x"), lambda: Run.of(value, 7, [0])):
                    with self.assertRaises(InvalidProgram) as caught:
                        call()
                    self.assertIs(type(caught.exception), InvalidProgram)

    def test_wrong_indices(self):
        run = Run(TREE, 0, 0)
        for value in (2, -1, HUGE, *[value for value in odd_values() if value not in (0, 1) or value is True]):
            with self.assertRaises(InvalidOperation) as caught:
                run + value
            self.assertIs(type(caught.exception), InvalidOperation)
        with self.assertRaises(InvalidOperation):
            Run(DOOR.with_begin((0, 0, 0)), 0) + 0

    def test_wrong_numbers(self):
        run = Run(TREE, 0, 0, 1, 0)
        for value in (4, -1, HUGE, *[value for value in odd_values() if value not in (0, 1) or value is True]):
            with self.assertRaises(InvalidNumber) as caught:
                run.back(many=value)
            self.assertIs(caught.exception.value, value)
        with self.assertRaises(InvalidNumber):
            Run(TREE, 0).back()
        with self.assertRaises(TypeError):
            run.back(1)

    def test_equality(self):
        run = Run(TREE, 0, 0, 1)
        for other in (Run(TREE, 0, 0, 1), Run.of(TREE, 0, (0, 1)), Run(TREE, 0, 0) + 1):
            self.assertIs(run == other, True)
            self.assertIs(run != other, False)
        others = (Run(TREE, 0, 0, 0), Run(TREE, 0, 0), Run(TREE.with_begin((1, 1)), 0, 0, 1), TREE, (TREE, 0, (0, 1)),
                  *odd_values())
        for other in others:
            self.assertIs(run == other, False)
            self.assertIs(run != other, True)
            self.assertIs(other == run, False)
        both = DOOR.with_starts((0, 1))
        self.assertNotEqual(Run(both, 0), Run(both, 1))

    def test_it_cannot_be_iterated_over(self):
        for call in (iter, list, tuple, sorted, lambda run: [*run], lambda run: 0 in run):
            with self.assertRaises(TypeError):
                call(Run(TREE, 0, 0))


if __name__ == "__main__":
    unittest.main()
