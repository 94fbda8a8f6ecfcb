"""Proofs that there are too many tops: what is shown to be a top is one."""

import random
import unittest

from postedbag.base.bags import ANY
from postedbag.base.programs import Procedure, Program
from postedbag.errors import TooMany
from postedbag.know.tables import table_of
from postedbag.plan.climb import mode_ranks
from postedbag.plan.possible import merged, possible_takes
from postedbag.plan.proofs import are_shown, is_heaviest, weighed
from postedbag.plan.tops import Tops
from tests.randoms import loose, onward
from tests.samples import DOOR, HUGE, LEAVE
from tests.test_gains import MANY
from tests.test_tops import TURNS, gains_of_tasks, plain, post, quiet
from tests.words import is_below, takes_of

FAR = 10 ** 60


class ShownTest(unittest.TestCase):
    def test_only_tops_are_shown(self):
        shown = 0
        for seed in range(60):
            program = onward(seed, procedures=3) if seed % 2 else loose(seed)
            source = random.Random(seed)
            rows = Tops(program).rows
            takes = possible_takes(program, table_of(program))
            some = [source.choice(rows) for _ in range(3)]
            for mode, wide in list(some):
                some.append((mode, tuple(source.choice((many, 0, 3)) if many == ANY else source.randint(0, many) for many in wide)))
            for standing in some:
                weights = weighed(program, takes, standing, FAR)
                for other in some:
                    if is_heaviest(other, weights, FAR):
                        self.assertIn(other, rows)
                        shown += 1
        self.assertGreater(shown, 60)

    def test_more_than_so_many(self):
        for many in (1, 3, 50):
            program = TURNS.with_begin((many, 0))
            rows = Tops(program).rows
            table = table_of(program)
            self.assertIs(are_shown(program, table, list(rows), many), True)
            self.assertIs(are_shown(program, table, list(rows), many + 1), False)
            self.assertIs(are_shown(program, table, [(0, (0, 0))] * 5, 0), False)

    def test_tasks_that_come_and_come(self):
        source = Procedure("r", 1, ("post", 0, 0, "s", (0,)), LEAVE)
        program = Program(1, (0,), (9, 0, 1, 0), plain("p", post("q")), *quiet("q"), source, *quiet("s"))
        self.assertIs(are_shown(program, table_of(program), list(Tops(program).rows), 19), True)

    def test_gains_that_are_too_many(self):
        program = MANY.with_begin((0, 0, 0, 0, 1))
        self.assertIs(are_shown(program, table_of(program), [(0, (0, 0, 0, 0, 1))], 0), False)
        self.assertRaises(TooMany, possible_takes, program, table_of(program))


class PossibleTest(unittest.TestCase):
    def test_all_takes_that_can_be(self):
        for seed in range(60):
            program = loose(seed, modes=3)
            possible = set(possible_takes(program, table_of(program)))
            tops = Tops(program)
            for at, mode, end, gain in takes_of(program, gains_of_tasks(program)):
                single = tuple(int(index == at) for index in range(len(program)))
                if tops.covers(mode, single):
                    self.assertIn((mode, at, end, gain), possible)

    def test_merged(self):
        takes = [(0, 1, 0, (1, 5, ANY)), (0, 1, 0, (4, 2, 3)), (0, 1, 1, (1, 1, 1)), (0, 1, 0, (0, 0, 7))]
        self.assertEqual(merged(takes), [(0, 1, 0, (4, 5, ANY)), (0, 1, 1, (1, 1, 1))])

    def test_ranks(self):
        self.assertEqual(mode_ranks(DOOR, table_of(DOOR)), [-2, -2])
        turn = Procedure("p", 2, ("go", 0, 1, ((0, 1), (1, 2))), ("leave", 1, (1, 2)))
        program = Program(4, (0,), (1,), turn)
        self.assertEqual(mode_ranks(program, table_of(program)), [-3, -2, -1, -1])


class GreatBeginsTest(unittest.TestCase):
    def test_rounds_that_need_several_tasks(self):
        """Each third take makes more of a task: of p a task q, of q a task r, and of r any number of all of them."""
        modes = (0, 1, 2)
        made = []
        for name, other in zip("pqr", "qrr"):
            turn = [("go", 0, 1, ((0, 1), (1, 2))), ("go", 0, 2, ((2, 0),)), ("leave", 1, modes)]
            more = [("post", 2, 2, each, modes) for each in "pqr"] if name == "r" else []
            ends = [("leave", 2, modes)] if name == "r" else [("post", 2, 1, other, modes)]
            made.append(Procedure(name, 3, *turn, *more, *ends))
        for many in range(1, 12):
            rows = Tops(Program(3, (0,), (many, 0, 0), *made)).rows
            self.assertIs((2, (ANY, ANY, ANY)) in rows, many > 6)
            self.assertIs(any(ANY in wide for _, wide in rows), many > 6)
        for many in (40, 10 ** 6, HUGE):
            rows = Tops(Program(3, (0,), (many, 0, 0), *made)).rows
            self.assertEqual(rows, tuple((mode, (ANY, ANY, ANY)) for mode in modes))

    def test_tasks_that_double(self):
        """The tasks t become two tasks r each in one mode, and those tasks t again in another one."""
        made = [
            Procedure("p", 2, ("go", 0, 1, ((0, 1), (1, 0))), ("leave", 1, (0, 1))),
            Procedure("r", 2, ("post", 0, 1, "t", (1,)), ("leave", 1, (1,))),
            Procedure("t", 4, ("post", 0, 1, "r", (0,)), ("post", 1, 3, "r", (0,)), ("post", 1, 3, "p", (0,)),
                      ("leave", 3, (0,))),
        ]
        for many in (6, 7, 50, HUGE):
            rows = Tops(Program(2, (0,), (2, 0, many), *made)).rows
            self.assertEqual(rows, ((0, (ANY, ANY, ANY)), (1, (ANY, ANY, ANY))))
        # With a task t that makes no task p, the rounds end with the tasks p.
        other = Procedure("t", 3, ("post", 0, 1, "r", (0,)), ("post", 1, 2, "r", (0,)), ("leave", 2, (0,)))
        program = Program(2, (0,), (3, 0, 1), *made[:2], other)
        self.assertTrue(all(ANY not in wide for _, wide in Tops(program).rows))
        self.assertIs(Tops(program).covers(0, (1, 0, 2)), True)
        self.assertIs(Tops(program).covers(1, (0, 4, 0)), True)
        self.assertIs(Tops(program).covers(1, (0, 5, 0)), False)
        self.assertRaises(TooMany, Tops, program.with_begin((HUGE, 0, 1)))


if __name__ == "__main__":
    unittest.main()
