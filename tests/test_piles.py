"""Stage 14: how many tasks can wait."""

import itertools
import random
import unittest

from postedbag.ask.covers import covers
from postedbag.ask.piles import can_pile, is_bounded, most_waiting, pile_plan, piles
from postedbag.base.bags import ANY
from postedbag.base.programs import Procedure, Program
from postedbag.errors import InvalidNumber, InvalidProgram, TooMany, UnknownName
from postedbag.plan.plans import end_of, is_plan
from postedbag.plan.tops import Tops
from tests.randoms import full, loose, onward
from tests.samples import DOOR, HUGE, JOBS, LEAVE, TREE, odd_values
from tests.test_gains import MANY
from tests.test_needs import CLOCK
from tests.test_tops import TURNS, plain, quiet

PICK = Procedure("pick", 3, ("go", 0, 1, ((0, 0),)), ("go", 0, 2, ((0, 0),)), ("post", 1, 1, "left", (0,)),
                 ("post", 2, 2, "right", (0,)), ("leave", 1, (0,)), ("leave", 2, (0,)))
EITHER = Program(1, (0,), (1, 0, 0), PICK, *quiet("left", "right"))
# Of a and b any number can wait together, and so can of a and c, and of d in another mode.
SOME = Program(
    2, (0,), (0, 0, 0, 0, 1),
    *[Procedure(name, 1, ("leave", 0, (0, 1))) for name in "dcba"],
    Procedure(
        "e", 3, ("go", 0, 1, ((0, 0),)), ("go", 0, 2, ((0, 0),)), ("post", 1, 1, "a", (0,)), ("post", 1, 1, "b", (0,)),
        ("post", 2, 2, "a", (0,)), ("post", 2, 2, "c", (0,)), ("leave", 1, (0,)), ("leave", 2, (0,)),
        ("go", 0, 0, ((0, 1),)), ("post", 0, 0, "d", (1,)), ("leave", 0, (1,)),
    ),
)


def sets_of(names):
    """All ascending tuples of at least one of some names."""
    names = sorted(names)
    return [some for many in range(1, len(names) + 1) for some in itertools.combinations(names, many)]


class MostTest(unittest.TestCase):
    def test_against_the_tops(self):
        found = []
        for seed in range(90):
            program = onward(seed, modes=3) if seed % 2 else loose(seed, modes=3)
            rows = Tops(program).rows
            for at, name in enumerate(program.names):
                entries = [bag[at] for _, bag in rows]
                self.assertEqual(most_waiting(program, name), ANY if ANY in entries else max(entries))
                found.append(most_waiting(program, name))
            self.assertIs(is_bounded(program), all(most_waiting(program, name) != ANY for name in program.names))
        self.assertGreater(found.count(ANY), 20)
        self.assertGreater(len(set(found)), 4)

    def test_what_is_covered(self):
        for seed in range(30):
            program = loose(seed)
            for at, name in enumerate(program.names):
                most = most_waiting(program, name)
                one = tuple(int(index == at) for index in range(len(program)))
                for many in (1, 5, HUGE):
                    bag = tuple(many * entry for entry in one)
                    told = any(covers(program, mode, bag) for mode in range(program.modes))
                    self.assertIs(told, most == ANY or many <= most)

    def test_great_begins(self):
        program = JOBS.with_begin((HUGE, 7))
        self.assertEqual([most_waiting(program, name) for name in program.names], [HUGE, ANY])
        self.assertEqual(most_waiting(DOOR.with_begin((0, HUGE, 0)), "work"), HUGE)
        self.assertEqual(most_waiting(DOOR, "shut"), 1)
        self.assertIs(is_bounded(DOOR), True)
        self.assertIs(is_bounded(TREE), False)

    def test_the_greatest_numbers_need_not_wait_at_one_time(self):
        program = TURNS.with_begin((5, 0))
        self.assertEqual([most_waiting(program, name) for name in program.names], [5, 5])
        self.assertIs(covers(program, 0, (5, 5)), False)


class PilesTest(unittest.TestCase):
    def test_together_and_each_alone(self):
        self.assertEqual(piles(EITHER), (("left",), ("right",)))
        self.assertEqual(piles(SOME), (("a", "b"), ("a", "c"), ("d",)))
        self.assertEqual((piles(JOBS), piles(DOOR)), ((("job",),), ()))
        for names in sets_of(SOME.names):
            right = any(set(names) <= set(pile) for pile in (("a", "b"), ("a", "c"), ("d",)))
            self.assertIs(can_pile(SOME, names), right, names)
        self.assertIs(can_pile(EITHER, ("left",)), True)
        self.assertIs(can_pile(EITHER, ("left", "right")), False)

    def test_against_what_is_covered(self):
        sizes = []
        for seed in range(90):
            program = onward(seed) if seed % 2 else loose(seed)
            told = piles(program)
            self.assertEqual(told, tuple(sorted(set(told))))
            for names in sets_of(program.names):
                bag = tuple(HUGE if name in names else 0 for name in program.names)
                many = any(covers(program, mode, bag) for mode in range(program.modes)) if max(program.begin) < HUGE else None
                self.assertIs(can_pile(program, names), many, (seed, names))
                self.assertIs(many, any(set(names) <= set(pile) for pile in told))
            for one, other in itertools.permutations(told, 2):
                self.assertFalse(set(one) <= set(other))
            sizes.extend(len(pile) for pile in told)
        self.assertGreater(max(sizes), 1)

    def test_plans(self):
        for seed in range(60):
            program = onward(seed) if seed % 2 else loose(seed)
            source = random.Random(seed)
            for _ in range(3):
                names = source.choice(sets_of(program.names))
                for many in (0, 1, 3, 100):
                    bag = tuple(many if name in names else 0 for name in program.names)
                    covered = any(covers(program, mode, bag) for mode in range(program.modes))
                    plan = pile_plan(program, names, many)
                    self.assertIs(plan is not None, covered)
                    if plan is not None:
                        self.assertIs(is_plan(program, plan), True)
                        self.assertTrue(all(few <= more for few, more in zip(bag, end_of(program, plan)[1])))

    def test_great_numbers(self):
        plan = pile_plan(EITHER, ("left",), HUGE)
        self.assertGreaterEqual(end_of(EITHER, plan)[1][1], HUGE)
        self.assertEqual(len(plan[1]), 1)
        self.assertIsNone(pile_plan(EITHER, ("left", "right"), HUGE))
        self.assertEqual(pile_plan(EITHER, ("left", "right"), 0), (0, ()))
        self.assertIsNone(pile_plan(DOOR, ("work",), 2))
        plan = pile_plan(SOME, ("d",), 10 ** 30)
        self.assertEqual(end_of(SOME, plan)[0], 1)

    def test_too_many_takes(self):
        plan = pile_plan(CLOCK, ("b",), 1000)
        self.assertEqual(len(plan[1]), 1000)
        for many in (1001, HUGE):
            with self.assertRaises(TooMany) as caught:
                pile_plan(CLOCK, ("b",), many)
            self.assertEqual(caught.exception.limit, 1000)
        self.assertIsNone(pile_plan(CLOCK, ("a", "b"), HUGE))
        # One mode can do with fewer takes than another one.
        there = Procedure("a", 4, ("go", 0, 3, ((0, 1),)), ("post", 3, 3, "b", (1,)), ("leave", 3, (1,)),
                          ("post", 0, 1, "a", (0,)), ("post", 1, 2, "b", (0,)), ("leave", 2, (0,)))
        program = Program(2, (0,), (1, 0), there, Procedure("b", 1, ("leave", 0, (0, 1))))
        self.assertEqual(len(pile_plan(program, ("b",), HUGE)[1]), 1)

    def test_answers_can_be_changed(self):
        plan = pile_plan(JOBS, ("job",), 3)
        plan[1][0][2].clear()
        self.assertIs(is_plan(JOBS, pile_plan(JOBS, ("job",), 3)), True)


class ErrorsTest(unittest.TestCase):
    def test_programs_and_names(self):
        for value in odd_values():
            if not isinstance(value, Program):
                for call in (lambda one: most_waiting(one, None), is_bounded, piles, lambda one: can_pile(one, None),
                             lambda one: pile_plan(one, None, None)):
                    self.assertRaises(InvalidProgram, call, value)
            for call in (lambda one: most_waiting(DOOR, one), lambda one: can_pile(DOOR, one),
                         lambda one: pile_plan(DOOR, one, None)):
                with self.assertRaises(UnknownName) as caught:
                    call(value)
                self.assertIn(caught.exception.name, [value, *(value if isinstance(value, tuple) else ())])
            if not isinstance(value, str):
                for names in ((value,), ("open", value), (value, "work")):
                    self.check_names(DOOR, names, names)

    def check_names(self, program, names, told):
        """Whether both functions raise the error with what is told."""
        for call in (can_pile, lambda one, other: pile_plan(one, other, None)):
            with self.assertRaises(UnknownName) as caught:
                call(program, names)
            self.assertEqual(caught.exception.name, told)

    def test_names(self):
        for names in (("work", "open"), ("open", "open"), (), ["open"], ("open", "shut", "open"), ("work", "door"), "open"):
            self.check_names(DOOR, names, names)
        self.check_names(DOOR, ("door", "open"), "door")
        self.check_names(DOOR, ("open", "other", "other2"), "other")
        self.check_names(DOOR, ("", "open"), "")
        self.check_names(DOOR, ("OPEN", "door"), "OPEN")

    def test_numbers(self):
        for value in odd_values():
            if type(value) is not int or value < 0:
                with self.assertRaises(InvalidNumber) as caught:
                    pile_plan(DOOR, ("open",), value)
                self.assertIs(caught.exception.value, value)
        self.assertRaises(UnknownName, pile_plan, DOOR, ("door",), -1)

    def test_too_many_comes_last(self):
        for program, name in ((TURNS.with_begin((HUGE, 0)), "p"), (MANY.with_begin((0, 0, 0, 0, 1)), "t")):
            for call in (lambda one: most_waiting(one, name), is_bounded, piles, lambda one: can_pile(one, (name,)),
                         lambda one: pile_plan(one, (name,), 1)):
                with self.assertRaises(TooMany) as caught:
                    call(program)
                self.assertEqual(caught.exception.limit, 400)
            self.assertRaises(UnknownName, most_waiting, program, "no")
            self.assertRaises(UnknownName, can_pile, program, ("no",))
            self.assertRaises(InvalidNumber, pile_plan, program, (name,), -1)

    def test_in_good_time(self):
        for seed in range(5):
            program = full(seed)
            try:
                told = piles(program)
            except TooMany as error:
                self.assertEqual(error.limit, 400)
            else:
                for pile in told:
                    self.assertIs(can_pile(program, pile), True)
                    self.assertIsNotNone(pile_plan(program, pile, 50))


if __name__ == "__main__":
    unittest.main()
