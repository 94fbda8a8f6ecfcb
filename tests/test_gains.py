"""[0.18] and stage 8: gains."""

import itertools
import unittest

from postedbag.base.bags import ANY
from postedbag.base.programs import Procedure, Program
from postedbag.errors import InvalidBag, InvalidMode, InvalidProgram, InvalidWay, TooMany, UnknownName
from postedbag.know.gains import ends_of, gains, is_gained, posted_any
from postedbag.know.uses import is_uses, posts_of, uses_for
from postedbag.know.ways import good_ways
from tests.randoms import NAMES, full, loose, onward, stairs
from tests.samples import DOOR, HUGE, JOBS, LEAVE, TREE, odd_values
from tests.words import capped, gains_up_to, greatest_by_words, ways_by_words

SRC, TOP = ("src", 0, 0, 0), ("tree", 0, 0, 0)


def caller(name, *others):
    """A procedure that calls others, one after the other."""
    calls = [("call", at, at + 1, other, (0,)) for at, other in enumerate(others)]
    return Procedure(name, len(others) + 1, *calls, ("leave", len(others), (0,)))


def tower(first, *rows):
    """A program of a first procedure and of others that call those ahead of them."""
    made = (first, *[caller(name, *row) for name, row in zip("qrst", rows)])
    return Program.of(1, (0,), (0,) * len(made), made)


ONE = Procedure("p", 2, ("post", 0, 1, "p", (0,)), ("leave", 1, (0,)))
EITHER = Procedure("p", 2, ("post", 0, 1, "p", (0,)), ("post", 0, 1, "q", (0,)), ("leave", 1, (0,)))
TWICE = Procedure("p", 3, ("post", 0, 1, "p", (0,)), ("post", 0, 1, "q", (0,)), ("post", 1, 2, "r", (0,)),
                  ("post", 1, 2, "s", (0,)), ("leave", 2, (0,)))
# The last procedures but one and the last ones make 19 and 20 times two choices: 400 and 441 gains.
MANY = tower(TWICE, "pppp", "qqqqp", "rpp", "sp")


class GainsTest(unittest.TestCase):
    def test_up_to_a_cap(self):
        cap = 5
        for seed in range(60):
            program = onward(seed, procedures=3, points=5) if seed % 2 else loose(seed)
            greatest = gains_up_to(program, cap)
            for way in ways_by_words(program):
                found = gains(program, way)
                self.assertEqual(sorted(greatest[way]), greatest_by_words([capped(bag, cap) for bag in found]), (seed, way))
                self.assertEqual(found, tuple(sorted(set(found))))
                self.assertEqual(list(found), greatest_by_words(found))

    def test_numbers_of_any_size(self):
        # In each mode but the first one the last procedure calls the first one twice, in the mode ahead.
        every = (0, 1, 2, 3, 4)
        stay = ("go", 4, 5, tuple((mode, mode) for mode in every))
        made = [
            Procedure(one, 6, *[("call", at, at + 1, other, every) for at in range(4)], stay, ("leave", 5, every))
            for one, other in ("pq", "qr", "rs", "st")
        ]
        down, up = tuple((mode, mode - 1) for mode in every[1:]), tuple((mode, mode + 1) for mode in every[:-1])
        last = Procedure(
            "t", 6, ("go", 0, 1, down), ("call", 1, 2, "p", every[:-1]), ("call", 2, 3, "p", every[:-1]), ("go", 3, 4, up),
            ("leave", 4, every[1:]), ("post", 0, 5, "q", (0,)), ("leave", 5, (0,)),
        )
        program = Program(5, (4,), (1, 0, 0, 0, 0), *made, last)
        for mode in every:
            many = 4 ** 4 * (2 * 4 ** 4) ** mode
            way = ("p", 0, mode, mode)
            self.assertEqual(gains(program, way), ((0, many, 0, 0, 0),))
            self.assertEqual(posts_of(program, uses_for(program, way, (0, many, 0, 0, 0))), (0, many, 0, 0, 0))
            self.assertIsNone(uses_for(program, way, (0, many + 1, 0, 0, 0)))
        self.assertEqual(gains(program, ("t", 3, 3, 4)), ((0, 0, 0, 0, 0),))

    def test_finitely_many_runs(self):
        # Each call has one of two ends, and each of these posts something else.
        either = Procedure("either", 2, ("post", 0, 1, "job", (0,)), ("post", 0, 1, "either", (0,)), ("leave", 1, (0,)))
        twice = Procedure("twice", 3, ("call", 0, 1, "either", (0,)), ("call", 1, 2, "either", (0,)), ("leave", 2, (0,)),
                          ("leave", 1, (0,)))
        program = Program(1, (0,), (0, 0, 0), either, twice, Procedure("job", 1, LEAVE))
        self.assertEqual(gains(program, ("either", 0, 0, 0)), ((0, 0, 1), (1, 0, 0)))
        self.assertEqual(gains(program, ("twice", 0, 0, 0)), ((0, 0, 2), (1, 0, 1), (2, 0, 0)))
        self.assertEqual(gains(program, ("twice", 1, 0, 0)), ((0, 0, 1), (1, 0, 0)))
        self.assertEqual(gains(program, ("twice", 2, 0, 0)), ((0, 0, 0),))

    def test_a_loop_of_moves(self):
        self.assertEqual(gains(JOBS, SRC), ((0, ANY),))
        two = Procedure("src", 3, ("go", 0, 1, ((0, 0),)), ("post", 1, 0, "job", (0,)), ("post", 0, 2, "src", (0,)),
                        ("leave", 2, (0,)))
        self.assertEqual(gains(JOBS.with_procedure(two), SRC), ((1, ANY),))
        self.assertEqual(gains(JOBS.with_procedure(two), ("src", 1, 0, 0)), ((1, ANY),))
        self.assertEqual(gains(JOBS.with_procedure(two), ("src", 2, 0, 0)), ((0, 0),))

    def test_one_loop_or_another(self):
        pick = Procedure("p", 3, ("go", 0, 1, ((0, 0),)), ("go", 0, 2, ((0, 0),)), ("post", 1, 1, "q", (0,)),
                         ("post", 2, 2, "r", (0,)), ("leave", 1, (0,)), ("leave", 2, (0,)))
        program = Program(1, (0,), (0, 0, 0), pick, Procedure("q", 1, LEAVE), Procedure("r", 1, LEAVE))
        self.assertEqual(gains(program, ("p", 0, 0, 0)), ((0, ANY, 0), (0, 0, ANY)))
        self.assertEqual(posted_any(program, ("p", 0, 0, 0)), ("q", "r"))
        self.assertEqual(posted_any(program, ("p", 2, 0, 0)), ("r",))

    def test_calls_of_itself(self):
        self.assertEqual(gains(TREE, TOP), ((0, ANY),))
        # Both branches of each tree are trees, so that any number of leaves can post.
        both = Procedure("tree", 3, ("call", 0, 1, "tree", (0,)), ("call", 1, 2, "tree", (0,)), ("leave", 2, (0,)),
                         ("post", 0, 2, "job", (0,)))
        self.assertEqual(gains(TREE.with_procedure(both), TOP), ((0, ANY),))
        # A post behind the only call that does not end.
        bare = Procedure("tree", 2, LEAVE, ("call", 0, 1, "tree", (0,)), ("post", 1, 1, "job", (0,)))
        self.assertEqual(gains(TREE.with_procedure(bare), TOP), ((0, 0),))

    def test_two_procedures_that_call_each_other(self):
        one = Procedure("one", 3, LEAVE, ("call", 0, 1, "two", (0,)), ("post", 1, 2, "job", (0,)), ("leave", 2, (0,)))
        two = Procedure("two", 3, LEAVE, ("call", 0, 1, "one", (0,)), ("post", 1, 2, "two", (0,)), ("leave", 2, (0,)))
        program = Program(1, (0,), (0, 0, 0), one, two, Procedure("job", 1, LEAVE))
        for name in ("one", "two"):
            self.assertEqual(gains(program, (name, 0, 0, 0)), ((0, ANY, ANY),))
            self.assertEqual(posted_any(program, (name, 0, 0, 0)), ("two", "job"))

    def test_a_round_through_modes(self):
        # A round through two modes posts, a half of it does not.
        turn = Procedure("p", 1, ("go", 0, 0, ((0, 1),)), ("post", 0, 0, "q", (1,)), ("leave", 0, (1,)))
        back = Procedure("p", 2, ("go", 0, 0, ((0, 1),)), ("post", 0, 1, "q", (1,)), ("go", 1, 0, ((1, 0),)),
                         ("leave", 1, (1,)))
        job = Procedure("q", 1, ("leave", 0, (0, 1)))
        self.assertEqual(gains(Program(2, (0,), (0, 0), turn, job), ("p", 0, 0, 1)), ((0, ANY),))
        self.assertEqual(gains(Program(2, (0,), (0, 0), back, job), ("p", 0, 0, 1)), ((0, ANY),))
        once = Procedure("p", 2, ("go", 0, 0, ((0, 1),)), ("post", 0, 1, "q", (1,)), ("go", 1, 1, ((1, 0), (1, 1))),
                         ("leave", 1, (0, 1)))
        program = Program(2, (0,), (0, 0), once, job)
        self.assertEqual([gains(program, ("p", 0, 0, end)) for end in (0, 1)], [((0, 1),), ((0, 1),)])

    def test_ways_that_are_not_good(self):
        self.assertEqual(gains(DOOR, ("open", 0, 1, 1)), ())
        self.assertEqual(posted_any(DOOR, ("open", 0, 1, 1)), ())
        self.assertIs(is_gained(DOOR, ("open", 0, 1, 1), (0, 0, 0)), False)
        for seed in range(20):
            program = loose(seed)
            good = good_ways(program)
            for way in ways_by_words(program):
                self.assertEqual(gains(program, way) == (), way not in good)

    def test_great_numbers(self):
        program = tower(ONE, "ppppp", "qqqqq", "rrrrr", "sssss")
        for name, many in zip(NAMES, (1, 5, 25, 125, 625)):
            self.assertEqual(gains(program, (name, 0, 0, 0)), ((many, 0, 0, 0, 0),))

    def test_the_order(self):
        for seed in range(9):
            program = stairs(seed, modes=1 + seed % 3)
            for way in good_ways(program)[:4]:
                try:
                    found = gains(program, way)
                except TooMany:
                    continue
                self.assertEqual(list(found), sorted(found))
                self.assertLessEqual(len(found), 400)


class TooManyTest(unittest.TestCase):
    def refuse(self, call, *arguments):
        with self.assertRaises(TooMany) as caught:
            call(*arguments)
        self.assertEqual(caught.exception.limit, 400)

    def test_400_and_more(self):
        self.assertEqual(len(gains(MANY, ("s", 0, 0, 0))), 400)
        self.assertEqual(posted_any(MANY, ("s", 0, 0, 0)), ())
        self.assertIs(is_gained(MANY, ("s", 0, 0, 0), (19, 0, 10, 9, 0)), True)
        self.assertIs(is_gained(MANY, ("s", 0, 0, 0), (19, 0, 10, 10, 0)), False)
        self.assertEqual(len(ends_of(MANY, "s", 0)[0]), 400)
        for call in (lambda: gains(MANY, ("t", 0, 0, 0)), lambda: posted_any(MANY, ("t", 0, 0, 0)),
                     lambda: is_gained(MANY, ("t", 0, 0, 0), (0, 0, 0, 0, 0)), lambda: ends_of(MANY, "t", 0)):
            self.refuse(call)
        # Behind its first call there is but one choice left.
        self.assertEqual(len(gains(MANY, ("t", 1, 0, 0))), 4)

    def test_401(self):
        program = tower(EITHER, "ppppp", "qqqq", "rrrr", "sssss")
        self.assertEqual(len(gains(program, ("s", 0, 0, 0))), 81)
        self.assertEqual(len(gains(program, ("t", 1, 0, 0))), 321)
        self.refuse(gains, program, ("t", 0, 0, 0))

    def test_far_more(self):
        every = Procedure("p", 2, *[("post", 0, 1, name, (0,)) for name in NAMES], ("leave", 1, (0,)))
        program = tower(every, "ppppp", "qqqqq", "rrrrr", "sssss")
        self.assertEqual(len(gains(program, ("q", 0, 0, 0))), 126)
        for name in "rst":
            self.refuse(gains, program, (name, 0, 0, 0))

    def with_last(self, *moves):
        """The program whose last procedure but one has too many gains, and whose last one has these moves."""
        program = tower(TWICE, "pppp", "qqqqp", "rppp", "p")
        return program.with_procedure(Procedure("t", 2, *moves))

    def test_ways_behind_rules(self):
        loops = [("post", 1, 1, name, (0,)) for name in NAMES[:4]]
        last = ("leave", 1, (0,))
        # Any number of all of them can be posted, but a way behind a rule has too many gains.
        program = self.with_last(("call", 0, 1, "s", (0,)), *loops, last)
        self.assertEqual(gains(program, ("t", 1, 0, 0)), ((ANY, ANY, ANY, ANY, 0),))
        self.refuse(gains, program, ("t", 0, 0, 0))
        # Just so if the way stands behind its own rules, or if other rules make do without it.
        self.refuse(gains, self.with_last(("call", 0, 0, "s", (0,)), *loops, ("leave", 0, (0,))), ("t", 0, 0, 0))
        self.refuse(gains, self.with_last(("call", 0, 1, "s", (0,)), ("go", 0, 1, ((0, 0),)), *loops, last), ("t", 0, 0, 0))

    def test_ways_behind_rules_that_no_uses_have(self):
        program = self.with_last(("call", 0, 1, "s", (0,)), ("leave", 0, (0,)))
        self.assertEqual(gains(program, ("t", 0, 0, 0)), ((0,) * 5,))
        self.assertEqual(gains(program, ("t", 1, 0, 0)), ())
        program = self.with_last(("leave", 0, (0,)))
        self.assertEqual(gains(program, ("t", 0, 0, 0)), ((0,) * 5,))

    def test_other_errors_come_ahead(self):
        self.assertRaises(InvalidBag, is_gained, MANY, ("t", 0, 0, 0), (0,))
        self.assertRaises(InvalidWay, gains, MANY, ("t", 9, 0, 0))
        self.assertRaises(UnknownName, ends_of, MANY, "u", 7)
        self.assertRaises(InvalidMode, ends_of, MANY, "t", 1)


class IsGainedTest(unittest.TestCase):
    def test_just_within_and_just_beyond(self):
        for seed in range(60):
            program = onward(seed) if seed % 2 else loose(seed)
            for way in good_ways(program)[:10]:
                found = gains(program, way)
                for gain in found:
                    bag = tuple(HUGE if entry == ANY else entry for entry in gain)
                    self.assertIs(is_gained(program, way, bag), True)
                    for at, entry in enumerate(gain):
                        if entry != ANY:
                            more = bag[:at] + (entry + 1,) + bag[at + 1:]
                            self.assertIs(is_gained(program, way, more), False)
                            self.assertIsNone(uses_for(program, way, more))

    def test_as_uses_for(self):
        for seed in range(10):
            program = onward(seed, procedures=3)
            for way in good_ways(program)[:6]:
                for bag in itertools.product((0, 1, 2, HUGE), repeat=len(program)):
                    uses = uses_for(program, way, bag)
                    self.assertIs(is_gained(program, way, bag), uses is not None)
                    if uses is not None:
                        self.assertIs(is_uses(program, way, uses), True)
                        self.assertTrue(all(many >= least for many, least in zip(posts_of(program, uses), bag)))

    def test_the_bag_of_nothing(self):
        for way in ways_by_words(DOOR):
            self.assertIs(is_gained(DOOR, way, (0, 0, 0)), way in good_ways(DOOR))


class EndsTest(unittest.TestCase):
    def test_each_mode(self):
        for seed in range(30):
            program = loose(seed, modes=4)
            for name in program.names:
                for mode in range(program.modes):
                    told = ends_of(program, name, mode)
                    found = {end: gains(program, (name, 0, mode, end)) for end in range(program.modes)}
                    self.assertEqual(told, {end: rows for end, rows in found.items() if rows})
                    self.assertEqual(list(told), sorted(told))

    def test_names_in_the_order_of_the_procedures(self):
        loops = [("post", 0, 0, name, (0,)) for name in ("b", "a", "d")]
        made = [Procedure(name, 1, *loops, LEAVE) for name in "dcba"]
        self.assertEqual(posted_any(Program(1, (0,), (0,) * 4, *made), ("c", 0, 0, 0)), ("d", "b", "a"))


class ErrorsTest(unittest.TestCase):
    def test_the_program_comes_first(self):
        for value in odd_values():
            if not isinstance(value, Program):
                for call in (lambda: gains(value, None), lambda: is_gained(value, None, None),
                             lambda: posted_any(value, None), lambda: ends_of(value, None, None)):
                    with self.assertRaises(InvalidProgram) as caught:
                        call()
                    self.assertIs(type(caught.exception), InvalidProgram)

    def test_ways_and_bags(self):
        for value in odd_values():
            for call in (lambda: gains(JOBS, value), lambda: is_gained(JOBS, value, None), lambda: posted_any(JOBS, value)):
                with self.assertRaises(InvalidWay) as caught:
                    call()
                self.assertIs(type(caught.exception), InvalidWay)
        for value in [*odd_values(), (0,), (0, 0, 0), (0, -1), (0, True), [0, 0]]:
            with self.assertRaises(InvalidBag) as caught:
                is_gained(JOBS, SRC, value)
            self.assertIs(type(caught.exception), InvalidBag)

    def test_names_and_modes(self):
        for value in odd_values():
            if value != "src":
                with self.assertRaises(UnknownName) as caught:
                    ends_of(JOBS, value, 9)
                self.assertIs(caught.exception.name, value)
            if type(value) is not int or value != 0:
                with self.assertRaises(InvalidMode) as caught:
                    ends_of(JOBS, "src", value)
                self.assertIs(type(caught.exception), InvalidMode)

    def test_large_programs(self):
        for seed in range(3):
            for program in (full(seed), stairs(seed)):
                for name in program.names:
                    try:
                        ends_of(program, name, 0)
                    except TooMany as error:
                        self.assertEqual(error.limit, 400)


if __name__ == "__main__":
    unittest.main()
