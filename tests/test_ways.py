"""[0.14], [0.15] and stage 6: ways, rules and good ways."""

import copy
import itertools
import unittest

from postedbag.base.programs import Procedure, Program
from postedbag.errors import InvalidOperation, InvalidProgram, InvalidWay
from postedbag.know.ways import behind, good_ways, is_good, is_rule, is_way, posted_by, rules_of
from tests.randoms import full, loose, onward
from tests.samples import DOOR, HUGE, JOBS, LEAVE, TREE, odd_values
from tests.words import rules_by_words, steps_up_to, ways_by_words

ALL = Program(
    2, (0,), (1, 0),
    Procedure(
        "p", 3, ("go", 0, 1, ((0, 0), (0, 1))), ("call", 1, 2, "q", (1,)), ("post", 0, 2, "p", (0, 1)), ("leave", 2, (1,)),
        ("go", 0, 1, ((1, 0),)),
    ),
    Procedure("q", 1, ("leave", 0, (0, 1))),
)
RULES = (("go", "p", 0, 0, 1, 0), ("call", "p", 1, 1, 0, 1), ("post", "p", 2, 0, 1), ("leave", "p", 3, 1))
CALLS_ON_PROGRAM_ALONE = (lambda value: is_way(value, None), lambda value: is_rule(value, None),
                          lambda value: rules_of(value, None), lambda value: behind(value, None),
                          lambda value: posted_by(value, None), good_ways, lambda value: is_good(value, None))


def values_of_parts():
    """Numbers, names and values of other kinds, for the parts of ways and rules."""
    return [0, 1, 2, 3, 4, -1, HUGE, True, False, None, "p", "q", "r", "", (0,), [0], {}, JOBS, "go", "leave"]


class FormsTest(unittest.TestCase):
    def test_ways(self):
        right = set(ways_by_words(ALL))
        for way in itertools.product(("p", "q", "r", 0), range(-1, 4), range(-1, 3), range(-1, 3)):
            self.assertIs(is_way(ALL, way), way in right, way)

    def test_ways_of_other_forms(self):
        way = ("p", 0, 1, 0)
        for at, value in itertools.product(range(4), values_of_parts()):
            other = way[:at] + (value,) + way[at + 1:]
            kinds = tuple(type(part) for part in other) == (str, int, int, int)
            self.assertIs(is_way(ALL, other), kinds and other in ways_by_words(ALL), other)
        for value in [way[:3], way + (0,), list(way), (way,), way[::-1], {way: 1}, *odd_values()]:
            self.assertIs(is_way(ALL, value), False, value)

    def test_rules(self):
        right = rules_by_words(ALL)
        for rule in RULES:
            self.assertIn(rule, right)
        kinds = ("go", "call", "post", "leave", "stop")
        for length in (1, 2, 3):
            for kind, name, at, modes in itertools.product(
                kinds, ("p", "q"), range(-1, 6), itertools.product(range(-1, 3), repeat=length),
            ):
                rule = (kind, name, at, *modes)
                self.assertIs(is_rule(ALL, rule), rule in right, rule)

    def test_rules_of_other_forms(self):
        right = rules_by_words(ALL)
        for rule in RULES:
            for at, value in itertools.product(range(len(rule)), values_of_parts()):
                other = rule[:at] + (value,) + rule[at + 1:]
                kinds = [type(part) for part in other] == [type(part) for part in rule]
                self.assertIs(is_rule(ALL, other), kinds and other in right, other)
            for value in (rule[:-1], rule + (0,), list(rule), (rule,), rule[::-1], rule[:1] + (rule[1:3],) + rule[3:]):
                self.assertIs(is_rule(ALL, value), False, value)
        for value in odd_values():
            self.assertIs(is_rule(ALL, value), False, value)

    def test_programs_at_random(self):
        for seed in range(10):
            for program in (loose(seed), onward(seed), full(seed)):
                self.assertTrue(all(is_way(program, way) for way in ways_by_words(program)))
                self.assertTrue(all(is_rule(program, rule) for rule in rules_by_words(program)))


class RulesTest(unittest.TestCase):
    def test_as_by_the_words(self):
        for program in [ALL, JOBS, TREE, DOOR, *map(loose, range(30)), *map(onward, range(30)), full(1)]:
            by_ways = {way: [] for way in ways_by_words(program)}
            for rule, (way, ways, name) in rules_by_words(program).items():
                by_ways[way].append(rule)
                self.assertEqual(behind(program, rule), ways)
                self.assertEqual(posted_by(program, rule), name)
            for way, rules in by_ways.items():
                self.assertEqual(rules_of(program, way), tuple(sorted(rules)))

    def test_all_kinds(self):
        self.assertEqual(rules_of(ALL, ("p", 0, 0, 1)), (
            ("go", "p", 0, 0, 0, 1), ("go", "p", 0, 0, 1, 1), ("post", "p", 2, 0, 1),
        ))
        self.assertEqual(rules_of(ALL, ("p", 1, 1, 0)), (("call", "p", 1, 1, 0, 0), ("call", "p", 1, 1, 1, 0)))
        self.assertEqual(rules_of(ALL, ("p", 1, 0, 0)), ())
        self.assertEqual([rules_of(ALL, ("p", 2, 1, end)) for end in (0, 1)], [(), (("leave", "p", 3, 1),)])
        self.assertEqual([behind(ALL, rule) for rule in RULES], [
            (("p", 1, 1, 0),), (("q", 0, 1, 0), ("p", 2, 0, 1)), (("p", 2, 0, 1),), (),
        ])
        self.assertEqual([posted_by(ALL, rule) for rule in RULES], [None, None, "p", None])

    def test_equal_moves_have_rules_of_their_own(self):
        program = Program(1, (0,), (0,), Procedure("p", 1, LEAVE, LEAVE))
        self.assertEqual(rules_of(program, ("p", 0, 0, 0)), (("leave", "p", 0, 0), ("leave", "p", 1, 0)))


class GoodWaysTest(unittest.TestCase):
    def test_as_by_the_words(self):
        for program in [ALL, JOBS, TREE, DOOR, *map(loose, range(60)), *map(onward, range(60)), full(2)]:
            good = good_ways(program)
            self.assertEqual(good, tuple(sorted(steps_up_to(program))))
            for way in ways_by_words(program)[:80]:
                self.assertIs(is_good(program, way), way in good)

    def test_ways_behind_their_own_rules(self):
        self.assertIs(is_good(TREE, ("tree", 0, 0, 0)), True)
        # Without its first leave, a tree calls trees for ever.
        first, *others = TREE["tree"].moves
        endless = TREE.with_procedure(Procedure("tree", 3, *others))
        self.assertIs(is_good(endless, ("tree", 0, 0, 0)), False)
        self.assertEqual(good_ways(endless), (("job", 0, 0, 0), ("tree", 1, 0, 0), ("tree", 2, 0, 0)))

    def test_two_procedures_that_call_each_other(self):
        one = Procedure("one", 2, ("call", 0, 1, "two", (0,)), ("leave", 1, (0,)))
        two = Procedure("two", 2, ("call", 0, 1, "one", (0,)), ("leave", 1, (0,)))
        self.assertEqual(good_ways(Program(1, (0,), (0, 0), one, two)), (("one", 1, 0, 0), ("two", 1, 0, 0)))
        out = Procedure("two", 2, ("call", 0, 1, "one", (0,)), ("leave", 1, (0,)), LEAVE)
        self.assertEqual(len(good_ways(Program(1, (0,), (0, 0), one, out))), 4)

    def test_loops_of_moves(self):
        round_and_round = Procedure("p", 2, ("go", 0, 1, ((0, 0),)), ("go", 1, 0, ((0, 0),)))
        self.assertEqual(good_ways(Program(1, (0,), (0,), round_and_round)), ())
        self.assertEqual(good_ways(Program(1, (0,), (0,), Procedure("p", 1))), ())


class ErrorsTest(unittest.TestCase):
    def test_the_program_comes_first(self):
        for value in odd_values():
            if not isinstance(value, Program):
                for call in CALLS_ON_PROGRAM_ALONE:
                    with self.assertRaises(InvalidProgram) as caught:
                        call(value)
                    self.assertIs(type(caught.exception), InvalidProgram)

    def test_no_way(self):
        for value in [*odd_values(), ("p", 0, 0), ("p", 3, 0, 0), ("p", 0, 0, 2), ["p", 0, 0, 0], ("p", 0, True, 0)]:
            for call in (rules_of, is_good):
                with self.assertRaises(InvalidWay) as caught:
                    call(ALL, value)
                self.assertIs(type(caught.exception), InvalidWay)

    def test_no_rule(self):
        for value in [*odd_values(), ("leave", "p", 3, 0), ("leave", "p", 0, 1), ("go", "p", 0, 0, 1), list(RULES[0])]:
            for call in (behind, posted_by):
                with self.assertRaises(InvalidOperation) as caught:
                    call(ALL, value)
                self.assertIs(type(caught.exception), InvalidOperation)

    def test_nothing_is_changed(self):
        lists = [["p", 0, 0, 0], ("leave", ["p"], 3, 0), ["leave", "p", 3, 1]]
        kept = copy.deepcopy(lists)
        for value in lists:
            self.assertIs(is_way(ALL, value), False)
            self.assertIs(is_rule(ALL, value), False)
        self.assertEqual(lists, kept)


if __name__ == "__main__":
    unittest.main()
