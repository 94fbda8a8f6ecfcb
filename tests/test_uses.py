"""[0.15], [0.16] and stage 7: uses of ways."""

import copy
import itertools
import random
import unittest

from postedbag.base.programs import Procedure, Program
from postedbag.errors import InvalidBag, InvalidProgram, InvalidRun, InvalidUses, InvalidWay, TooMany
from postedbag.know.gains import gains
from postedbag.know.uses import choices_of, is_uses, least_steps, least_uses, posts_of, uses_for, uses_of
from postedbag.know.ways import good_ways
from postedbag.run.runs import options
from tests.randoms import full, loose, onward, stairs
from tests.samples import DOOR, HUGE, JOBS, LEAVE, TREE, odd_values
from tests.words import gains_up_to, rules_by_words, steps_up_to, ways_by_words

SRC, TOP = ("src", 0, 0, 0), ("tree", 0, 0, 0)
STOP, POST = ("leave", "src", 1, 0), ("post", "src", 0, 0, 0)
CALL, BARE, LAST, WORK = (
    ("call", "tree", 1, 0, 0, 0), ("leave", "tree", 0, 0), ("leave", "tree", 3, 0), ("post", "tree", 2, 0, 0),
)
# Two loops at one point, of which one cannot be come to from the other one's point.
LOOPS = Program(
    1, (0,), (1, 0),
    Procedure("p", 3, ("go", 0, 1, ((0, 0),)), ("post", 1, 1, "q", (0,)), ("go", 1, 0, ((0, 0),)), ("leave", 0, (0,)),
              ("go", 2, 2, ((0, 0),))),
    Procedure("q", 1, LEAVE),
)


def is_right(program, way, uses):
    """[0.15] by its words, for a dict from rules to integers from 1 on."""
    rules = rules_by_words(program)
    for other in ways_by_words(program):
        made = sum(many for rule, many in uses.items() if rules[rule][0] == other)
        wanted = sum(many * rules[rule][1].count(other) for rule, many in uses.items()) + (other == way)
        if made != wanted:
            return False
    met = {way}
    for _ in uses:
        for rule in uses:
            if rules[rule][0] in met:
                met |= set(rules[rule][1])
    return all(rules[rule][0] in met for rule in uses)


def walk(program, seed, most):
    """A way and its choices, by a walk at random that is brought to its end, or None."""
    source = random.Random(seed)
    procedure = source.choice(program.procedures)
    mode, point = source.randrange(program.modes), source.randrange(procedure.points)
    situation = (mode, (0,) * len(program), (), (procedure.called, point))
    choices = []
    while situation[3] is not None:
        found = options(program, situation)
        if not found or len(choices) > 3 * most:
            return None
        choice = source.randrange(len(found))
        if len(choices) >= most:
            choice = min(range(len(found)), key=lambda at: (found[at][3] is not None, len(found[at][2]), source.random()))
        choices.append(choice)
        situation = found[choice]
    return (procedure.called, point, mode, situation[0]), tuple(choices), situation[1]


class RightUsesTest(unittest.TestCase):
    def test_balance(self):
        for many in (1, 2, 3, HUGE):
            self.assertIs(is_uses(JOBS, SRC, {STOP: 1, POST: many}), True)
            self.assertIs(is_uses(JOBS, SRC, {STOP: many}), many == 1)
            self.assertIs(is_uses(JOBS, SRC, {POST: many}), False)
            self.assertIs(is_uses(JOBS, SRC, {STOP: 2, POST: many}), False)
            self.assertIs(is_uses(TREE, TOP, {CALL: many, BARE: 1, LAST: many, WORK: many}), True)
            self.assertIs(is_uses(TREE, TOP, {CALL: many, BARE: 1, LAST: many, WORK: many + 1}), False)
            self.assertIs(is_uses(TREE, TOP, {CALL: many + 1, BARE: 1, LAST: many, WORK: many}), False)
            self.assertIs(is_uses(TREE, TOP, {CALL: many, BARE: 2, LAST: many, WORK: many}), False)
            self.assertIs(is_uses(TREE, TOP, {CALL: many, LAST: many, WORK: many}), False)
        self.assertIs(is_uses(JOBS, SRC, {}), False)

    def test_joined(self):
        here, there, work, stop = ("go", "p", 0, 0, 0, 0), ("go", "p", 2, 0, 0, 0), ("post", "p", 1, 0, 0), (
            "leave", "p", 3, 0)
        alone = ("go", "p", 4, 0, 0, 0)
        way = ("p", 0, 0, 0)
        self.assertIs(is_uses(LOOPS, way, {stop: 1}), True)
        self.assertIs(is_uses(LOOPS, way, {stop: 1, here: 2, there: 2}), True)
        self.assertIs(is_uses(LOOPS, way, {stop: 1, here: 1, there: 1, work: HUGE}), True)
        # These balance, but nothing leads to the loops.
        self.assertIs(is_uses(LOOPS, way, {stop: 1, work: 1}), False)
        self.assertIs(is_uses(LOOPS, way, {stop: 1, alone: 1}), False)
        self.assertIs(is_uses(LOOPS, way, {stop: 1, here: 1, there: 1, alone: 1}), False)
        self.assertIs(is_uses(LOOPS, ("p", 1, 0, 0), {stop: 1, there: 1, work: 5}), True)
        self.assertIs(is_uses(LOOPS, ("p", 1, 0, 0), {stop: 1, there: 2, here: 1, work: 5}), True)

    def test_uses_of_another_way(self):
        self.assertIs(is_uses(TREE, ("tree", 1, 0, 0), {WORK: 1, LAST: 1}), True)
        self.assertIs(is_uses(TREE, TOP, {WORK: 1, LAST: 1}), False)
        self.assertIs(is_uses(TREE, ("job", 0, 0, 0), {("leave", "job", 0, 0): 1}), True)
        self.assertIs(is_uses(TREE, ("job", 0, 0, 0), {BARE: 1}), False)

    def test_numbers(self):
        for many in (0, -1, -HUGE, True, False, None, "1", (1,), [1], 1.0):
            self.assertIs(is_uses(JOBS, SRC, {STOP: 1, POST: many}), False, many)
            self.assertIs(is_uses(JOBS, SRC, {STOP: many}), False, many)

    def test_other_values(self):
        for value in [*odd_values(), (STOP, 1), ((STOP, 1),), [STOP], [(STOP, 1)], {STOP}, {STOP: 1, None: 1},
                      {("leave", "src", True, 0): 1}, {STOP: 1, ("post", "src", 0, 0): 1}, {STOP: 1, "post": 1},
                      {("leave", "job", 0, 0): 1}]:
            self.assertIs(is_uses(JOBS, SRC, value), False, value)

    def test_the_order_of_the_keys_does_not_matter(self):
        uses = {CALL: 2, BARE: 1, LAST: 2, WORK: 2}
        for order in itertools.permutations(uses):
            self.assertIs(is_uses(TREE, TOP, {rule: uses[rule] for rule in order}), True)

    def test_as_by_the_words(self):
        for seed in range(60):
            program = loose(seed) if seed % 2 else onward(seed)
            source = random.Random(seed)
            rules = sorted(rules_by_words(program))
            for way in ways_by_words(program)[:12]:
                least = least_uses(program, way) or {}
                for _ in range(6):
                    uses = {rule: least[rule] for rule in least}
                    for rule in source.sample(rules, min(len(rules), source.randrange(3))):
                        uses[rule] = max(1, uses.get(rule, 0) + source.choice((-1, 1)))
                    self.assertIs(is_uses(program, way, uses), is_right(program, way, uses), (seed, way, uses))


class PostsTest(unittest.TestCase):
    def test_right_or_not(self):
        self.assertEqual(posts_of(JOBS, {}), (0, 0))
        self.assertEqual(posts_of(JOBS, {STOP: 7}), (0, 0))
        self.assertEqual(posts_of(JOBS, {POST: HUGE}), (0, HUGE))
        self.assertEqual(posts_of(JOBS, {POST: HUGE, ("leave", "job", 0, 0): 3}), (0, HUGE))
        self.assertEqual(posts_of(DOOR, {("post", "open", 1, 1, 0): 2, ("post", "open", 1, 1, 1): 3,
                                         ("post", "work", 0, 1, 0): 5}), (5, 5, 0))

    def test_no_such_dict(self):
        for value in [*odd_values(), {STOP: 0}, {STOP: True}, {STOP: -1}, {STOP: None}, {None: 1}, {"leave": 1}, [STOP],
                      {STOP: 1, ("post", "src", 0, 0, 1): 1}, {STOP: 1, ("post", "src", 0, False, 0): 1}]:
            with self.assertRaises(InvalidUses) as caught:
                posts_of(JOBS, value)
            self.assertIs(type(caught.exception), InvalidUses)


class LeastTest(unittest.TestCase):
    def test_as_by_the_words(self):
        for program in [JOBS, TREE, DOOR, *map(loose, range(60)), *map(onward, range(60)), full(3), stairs(1)]:
            steps = steps_up_to(program)
            for way in ways_by_words(program)[:60]:
                self.assertEqual(least_steps(program, way), steps.get(way))
                uses = least_uses(program, way)
                if way in steps:
                    self.assertEqual(sum(uses.values()), steps[way])
                    self.assertIs(is_uses(program, way, uses), True)
                    self.assertEqual(list(uses), sorted(uses))
                else:
                    self.assertIsNone(uses)

    def test_against_a_search_through_runs(self):
        for seed in range(30):
            program = loose(seed)
            for way in ways_by_words(program)[:8]:
                name, point, mode, end = way
                level = {((), mode, (name, point))}
                found = None
                for many in range(1, 8):
                    level = {(other[2], other[0], other[3]) for sites, mode, spot in level if spot is not None
                             for other in options(program, (mode, (0,) * len(program), sites, spot))}
                    if found is None and ((), end, None) in level:
                        found = many
                steps = least_steps(program, way)
                self.assertEqual(found, steps if steps is not None and steps < 8 else None, (seed, way))

    def test_great_numbers(self):
        # Each procedure calls the next one 5 times.
        made = [Procedure(name, 6, *[("call", at, at + 1, other, (0,)) for at in range(5)], ("leave", 5, (0,)))
                for name, other in zip("abcd", "bcde")]
        program = Program(1, (0,), (1, 0, 0, 0, 0), *made, Procedure("e", 1, LEAVE))
        self.assertEqual(least_steps(program, ("a", 0, 0, 0)), sum(5 ** at + 5 ** (at + 1) for at in range(4)) + 625)
        uses = least_uses(program, ("a", 0, 0, 0))
        self.assertEqual(uses["leave", "e", 0, 0], 625)
        self.assertIs(is_uses(program, ("a", 0, 0, 0), uses), True)


class UsesForTest(unittest.TestCase):
    def check(self, program, way, bag):
        uses = uses_for(program, way, bag)
        self.assertIs(is_uses(program, way, uses), True, (way, bag))
        self.assertTrue(all(many >= wanted for many, wanted in zip(posts_of(program, uses), bag)), (way, bag))
        self.assertEqual(list(uses), sorted(uses))

    def test_the_documents_programs(self):
        for many in (0, 1, 7, HUGE):
            self.check(JOBS, SRC, (0, many))
            self.check(TREE, TOP, (0, many))
        for bag in ((1, 0), (1, 1), (HUGE, HUGE)):
            self.assertIsNone(uses_for(JOBS, SRC, bag))
            self.assertIsNone(uses_for(TREE, TOP, bag))
        self.check(DOOR, ("open", 0, 0, 1), (0, 1, 0))
        for bag in ((0, 2, 0), (1, 1, 0), (0, 0, 1), (0, HUGE, 0)):
            self.assertIsNone(uses_for(DOOR, ("open", 0, 0, 1), bag))
        self.assertIsNone(uses_for(DOOR, ("open", 0, 1, 1), (0, 0, 0)))

    def test_up_to_a_cap(self):
        cap = 4
        for seed in range(40):
            program = onward(seed, procedures=3) if seed % 2 else loose(seed)
            greatest = gains_up_to(program, cap)
            for way in ways_by_words(program)[:10]:
                for bag in itertools.product((0, 1, 3), repeat=len(program)):
                    can_be = any(all(many <= most for many, most in zip(bag, gain)) for gain in greatest[way])
                    if can_be:
                        self.check(program, way, bag)
                    else:
                        self.assertIsNone(uses_for(program, way, bag), (seed, way, bag))

    def test_great_bags(self):
        for seed in range(60):
            program = onward(seed) if seed % 2 else loose(seed)
            for way in good_ways(program)[:12]:
                for gain in gains(program, way):
                    self.check(program, way, tuple(HUGE if entry == -1 else entry for entry in gain))

    def test_errors(self):
        for bag in [*odd_values(), (0,), (0, 0, 0), (0, -1), (0, True), [0, 0]]:
            with self.assertRaises(InvalidBag) as caught:
                uses_for(JOBS, SRC, bag)
            self.assertIs(type(caught.exception), InvalidBag)
        self.assertRaises(InvalidWay, uses_for, JOBS, ("src", 1, 0, 0), None)
        self.assertRaises(InvalidProgram, uses_for, None, None, None)


class ChoicesTest(unittest.TestCase):
    def there_and_back(self, program, way, uses):
        choices = choices_of(program, way, uses)
        self.assertEqual(len(choices), sum(uses.values()))
        self.assertEqual(uses_of(program, way, choices), uses)
        return choices

    def test_walks(self):
        found = 0
        for seed in range(400):
            program = (loose, onward)[seed % 2](seed % 37, procedures=4, points=4)
            told = walk(program, seed, random.Random(seed).choice((2, 10, 40, 200)))
            if told is not None:
                way, choices, posts = told
                uses = uses_of(program, way, choices)
                self.assertIs(is_uses(program, way, uses), True)
                self.assertEqual(list(uses), sorted(uses))
                self.assertEqual(posts_of(program, uses), posts)
                self.assertEqual(sum(uses.values()), len(choices))
                turned = {rule: uses[rule] for rule in list(uses)[::-1]}
                self.there_and_back(program, way, turned)
                found += 1
        self.assertGreater(found, 200)

    def test_they_are_choices_of_a_run(self):
        for program in (TREE, LOOPS, onward(3), onward(4), loose(9)):
            for way in good_ways(program):
                uses = least_uses(program, way)
                situation = (way[2], (0,) * len(program), (), way[:2])
                for choice in self.there_and_back(program, way, uses):
                    situation = options(program, situation)[choice]
                self.assertEqual(situation, (way[3], posts_of(program, uses), (), None))

    def test_loops_that_hang_on_one_another(self):
        uses = {("leave", "p", 3, 0): 1, ("go", "p", 0, 0, 0, 0): 3, ("go", "p", 2, 0, 0, 0): 3,
                ("post", "p", 1, 0, 0): 200}
        self.there_and_back(LOOPS, ("p", 0, 0, 0), uses)
        for many in (1, 2, 249):
            self.there_and_back(TREE, TOP, {CALL: many, BARE: 1, LAST: many, WORK: many})

    def test_a_thousand_steps(self):
        self.assertEqual(choices_of(JOBS, SRC, {STOP: 1, POST: 999}), (0,) * 999 + (1,))
        self.assertEqual(uses_of(JOBS, SRC, (0,) * 999 + (1,)), {STOP: 1, POST: 999})
        for many in (1000, 1001, HUGE):
            with self.assertRaises(TooMany) as caught:
                choices_of(JOBS, SRC, {STOP: 1, POST: many})
            self.assertEqual(caught.exception.limit, 1000)
        with self.assertRaises(InvalidRun):
            uses_of(JOBS, SRC, (0,) * 1000 + (1,))
        # Wrong uses come ahead of too many steps.
        self.assertRaises(InvalidUses, choices_of, JOBS, SRC, {STOP: 2, POST: HUGE})

    def test_wrong_uses(self):
        for uses in [*odd_values(), {}, {POST: 1}, {STOP: 2}, {STOP: True}, {BARE: 1}, [STOP]]:
            with self.assertRaises(InvalidUses) as caught:
                choices_of(JOBS, SRC, uses)
            self.assertIs(type(caught.exception), InvalidUses)

    def test_wrong_choices(self):
        for choices in [*odd_values(), (), (0,), (1, 0), (1, 1), (2,), (-1,), (True,), (0, True), (0, None), [1], "1", (0, 2),
                        (0,) * 5, (1,) * 2]:
            with self.assertRaises(InvalidRun) as caught:
                uses_of(JOBS, SRC, choices)
            self.assertIs(type(caught.exception), InvalidRun)
        self.assertEqual(uses_of(JOBS, SRC, (1,)), {STOP: 1})

    def test_another_end(self):
        two = Program(2, (0,), (0,), Procedure("p", 2, ("go", 0, 1, ((0, 0), (0, 1))), ("leave", 1, (0, 1))))
        for first, end in itertools.product((0, 1), (0, 1)):
            if first == end:
                self.assertEqual(sum(uses_of(two, ("p", 0, 0, end), (first, 0)).values()), 2)
            else:
                self.assertRaises(InvalidRun, uses_of, two, ("p", 0, 0, end), (first, 0))


class ErrorsTest(unittest.TestCase):
    CALLS = (lambda program, way: is_uses(program, way, None), least_steps, least_uses,
             lambda program, way: uses_for(program, way, None), lambda program, way: choices_of(program, way, None),
             lambda program, way: uses_of(program, way, None))

    def test_the_program_and_the_way_come_first(self):
        for value in odd_values():
            for call in self.CALLS:
                if not isinstance(value, Program):
                    with self.assertRaises(InvalidProgram) as caught:
                        call(value, None)
                    self.assertIs(type(caught.exception), InvalidProgram)
                with self.assertRaises(InvalidWay) as caught:
                    call(JOBS, value)
                self.assertIs(type(caught.exception), InvalidWay)
            if not isinstance(value, Program):
                self.assertRaises(InvalidProgram, posts_of, value, None)

    def test_nothing_is_changed_and_nothing_is_kept(self):
        uses = {WORK: 2, LAST: 2, CALL: 2, BARE: 1}
        kept = copy.deepcopy(uses)
        for call in (lambda: is_uses(TREE, TOP, uses), lambda: posts_of(TREE, uses), lambda: choices_of(TREE, TOP, uses)):
            call()
            self.assertEqual((uses, list(uses)), (kept, list(kept)))
        first = least_uses(TREE, TOP)
        first[BARE] = 5
        self.assertEqual(least_uses(TREE, TOP), {BARE: 1})


if __name__ == "__main__":
    unittest.main()
