"""[0.24], [13.1], [13.2] and stage 13: places within tasks."""

import copy
import itertools
import random
import unittest

from postedbag.ask.places import (
    is_path_uses, is_place, is_place_paper, path_gains, place_covers, place_paper, place_tops,
)
from postedbag.base.bags import ANY
from postedbag.base.programs import Procedure, Program
from postedbag.errors import InvalidBag, InvalidMode, InvalidPlace, InvalidProgram, TooMany, UnknownName
from postedbag.plan.plans import is_plan
from postedbag.plan.tops import Tops, is_bar
from postedbag.run.runs import options
from tests.randoms import full, loose, onward
from tests.samples import DOOR, HUGE, JOBS, LEAVE, TREE, odd_values
from tests.test_gains import MANY, caller, tower
from tests.test_needs import CLOCK
from tests.test_tops import TURNS, plain, post, quiet
from tests.words import capped, gains_up_to, greatest_by_words, is_below, rules_by_words

FAR = ("src", 0, 0)


def places_of(program):
    """All places of a program."""
    return [(name, point, mode) for name in program.names for point in range(program[name].points)
            for mode in range(program.modes)]


def path_rules_by_words(program, place):
    """[13.1]: a dict from all path rules to their path, what is behind them, and the task that they post or None."""
    found = {("stop", *place): (place, (), None)}
    modes = range(program.modes)
    for procedure in program.procedures:
        p = procedure.called
        for j, move in enumerate(procedure.moves):
            x = move[1]
            if move[0] == "go":
                for m, k in move[3]:
                    found["go", p, j, m, k] = ((p, x, m), ((p, move[2], k),), None)
            elif move[0] == "post":
                for m in move[4]:
                    found["post", p, j, m] = ((p, x, m), ((p, move[2], m),), move[3])
            elif move[0] == "call":
                for m in move[4]:
                    found["enter", p, j, m] = ((p, x, m), ((move[3], 0, m),), None)
                    for k in modes:
                        found["pass", p, j, m, k] = ((p, x, m), ((move[3], 0, m, k), (p, move[2], k)), None)
    return found


def path_gains_up_to(program, place, cap):
    """By each path the greatest bags that it posts on its way to a place, with at most the cap of each task."""
    ways = gains_up_to(program, cap)
    found = {path: set() for path in places_of(program)}
    changed = True
    while changed:
        changed = False
        for path, behind, name in path_rules_by_words(program, place).values():
            sums = {tuple(int(name == other) for other in program.names)}
            for other in behind:
                known = ways[other] if len(other) == 4 else found[other]
                sums = {capped(map(sum, zip(one, more)), cap) for one in sums for more in known}
            new = set(greatest_by_words(sums | found[path]))
            if new != found[path]:
                found[path] = new
                changed = True
    return found


def spots_of_runs(program, most):
    """The triples of a place and a bag of runs with at most so many steps."""
    found = set()
    level = {(start, program.begin, (), None) for start in program.starts}
    for _ in range(most):
        found |= {((*spot, mode), bag) for mode, bag, _, spot in level if spot is not None}
        level = {other for situation in level for other in options(program, situation)}
        if len(level) > 3000:
            break
    return found


class PlacesTest(unittest.TestCase):
    def test_just_right_and_just_wrong(self):
        for name, point, mode in itertools.product(("open", "work", "shut", "OPEN", "door", ""), range(-1, 5), range(-1, 4)):
            points = {"open": 3, "work": 2, "shut": 2}.get(name, 0)
            self.assertIs(is_place(DOOR, (name, point, mode)), 0 <= point < points and 0 <= mode < 2)
        for value in [["open", 0, 0], ("open", 0), ("open", 0, 0, 0), ("open", True, 0), ("open", 0, False), *odd_values()]:
            self.assertIs(is_place(DOOR, value), False)
        for value in odd_values():
            for place in ((value, 0, 0), ("open", value, 0), ("open", 0, value)):
                right = place[0] == "open" and type(place[1]) is int and type(place[2]) is int and value in (0, 1)
                self.assertIs(is_place(DOOR, place), right)


class GainsTest(unittest.TestCase):
    def test_up_to_a_cap(self):
        cap = 4
        for seed in range(60):
            program = onward(seed, procedures=3) if seed % 2 else loose(seed)
            for place in random.Random(seed).sample(places_of(program), min(4, len(places_of(program)))):
                told = path_gains_up_to(program, place, cap)
                for name, mode in itertools.product(program.names, range(program.modes)):
                    found = path_gains(program, name, mode, place)
                    self.assertEqual(sorted(told[name, 0, mode]), greatest_by_words([capped(bag, cap) for bag in found]))
                    self.assertEqual(found, tuple(sorted(set(found))))
                    self.assertEqual(list(found), greatest_by_words(found))

    def test_paths_that_stop_at_once(self):
        self.assertEqual(path_gains(DOOR, "open", 0, ("open", 0, 0)), ((0, 0, 0),))
        self.assertEqual(path_gains(DOOR, "open", 1, ("open", 0, 1)), ((0, 0, 0),))
        self.assertEqual(path_gains(DOOR, "open", 0, ("open", 0, 1)), ())
        self.assertEqual(path_gains(DOOR, "open", 0, ("open", 2, 1)), ((0, 1, 0),))
        self.assertEqual(path_gains(JOBS, "src", 0, FAR), ((0, ANY),))

    def test_paths_that_stop_within_calls(self):
        inner = Procedure("r", 2, ("post", 0, 1, "r", (0,)))
        middle = Procedure("q", 2, ("post", 0, 1, "q", (0,)), ("call", 1, 1, "r", (0,)), ("leave", 1, (0,)))
        outer = Procedure("p", 3, ("post", 0, 1, "p", (0,)), ("call", 1, 2, "q", (0,)), ("leave", 2, (0,)))
        program = Program(1, (0,), (1, 0, 0), outer, middle, inner)
        # The procedure r can never be left, but tasks come to its points.
        self.assertEqual(path_gains(program, "p", 0, ("p", 1, 0)), ((1, 0, 0),))
        self.assertEqual(path_gains(program, "p", 0, ("q", 0, 0)), ((1, 0, 0),))
        self.assertEqual(path_gains(program, "p", 0, ("q", 1, 0)), ((1, 1, 0),))
        self.assertEqual(path_gains(program, "p", 0, ("r", 0, 0)), ((1, 1, 0),))
        self.assertEqual(path_gains(program, "p", 0, ("r", 1, 0)), ((1, 1, 1),))
        self.assertEqual(path_gains(program, "p", 0, ("p", 2, 0)), ((1, 1, 0),))
        self.assertEqual(path_gains(program, "q", 0, ("p", 0, 0)), ())
        self.assertEqual(path_gains(program, "r", 0, ("r", 1, 0)), ((0, 0, 1),))
        self.assertEqual(place_tops(program, ("r", 1, 0)), ((1, ANY, 1),))

    def test_calls_of_calls(self):
        for point in range(3):
            self.assertEqual(path_gains(TREE, "tree", 0, ("tree", point, 0)), (((0, 0),), ((0, ANY),), ((0, ANY),))[point])
        self.assertEqual(path_gains(TREE, "job", 0, ("tree", 0, 0)), ())

    def test_just_four_hundred(self):
        # The last procedures but one and the last ones make 19 and 20 times two choices: 400 and 441 gains.
        program = MANY.with_procedure(Procedure("t", 2, ("call", 0, 1, "s", (0,)), ("leave", 1, (0,))))
        self.assertEqual(len(path_gains(program, "t", 0, ("t", 1, 0))), 400)
        self.assertEqual(path_gains(MANY, "t", 0, ("p", 0, 0))[0][4], 0)

    def test_numbers_that_grow_fast(self):
        first = Procedure("p", 6, *[("post", at, at + 1, "p", (0,)) for at in range(5)], ("leave", 5, (0,)))
        program = tower(first, "ppppp", "qqqqq", "rrrrr", "sssss")
        self.assertEqual(path_gains(program, "t", 0, ("t", 5, 0)), ((5 ** 5, 0, 0, 0, 0),))
        self.assertEqual(path_gains(program, "t", 0, ("p", 5, 0)), ((5 ** 5, 0, 0, 0, 0),))
        self.assertEqual(path_gains(program, "t", 0, ("p", 4, 0)), ((5 ** 5 - 1, 0, 0, 0, 0),))


class CoversTest(unittest.TestCase):
    def test_against_runs(self):
        met = 0
        for seed in range(60):
            program = onward(seed, procedures=3) if seed % 2 else loose(seed)
            for place, bag in spots_of_runs(program, 9):
                self.assertIs(place_covers(program, place, bag), True, (seed, place, bag))
                met += 1
        self.assertGreater(met, 2000)

    def test_against_tops_and_gains(self):
        for seed in range(60):
            program = onward(seed, modes=3) if seed % 2 else loose(seed, modes=3)
            for place in random.Random(seed).sample(places_of(program), min(4, len(places_of(program)))):
                found = []
                for (mode, wide), (at, name) in itertools.product(Tops(program).rows, enumerate(program.names)):
                    for gain in path_gains(program, name, mode, place) if wide[at] != 0 else ():
                        rest = [many - (index == at) if many != ANY else ANY for index, many in enumerate(wide)]
                        found.append(tuple(ANY if ANY in pair else sum(pair) for pair in zip(rest, gain)))
                tops = place_tops(program, place)
                self.assertEqual(tops, tuple(greatest_by_words(found)))
                for bag in itertools.product((0, 1, 2), repeat=len(program)):
                    self.assertIs(place_covers(program, place, bag), any(is_below(bag, wide) for wide in tops))

    def test_the_task_that_runs_does_not_wait(self):
        self.assertEqual(place_tops(JOBS, ("job", 0, 0)), ((0, ANY),))
        alone = JOBS.with_begin((0, 1))
        self.assertEqual(place_tops(alone, ("job", 0, 0)), ((0, 0),))
        self.assertIs(place_covers(alone, ("job", 0, 0), (0, 1)), False)
        self.assertIs(place_covers(JOBS.with_begin((0, 2)), ("job", 0, 0), (0, 1)), True)

    def test_places_to_which_no_run_comes(self):
        self.assertEqual(place_tops(DOOR, ("work", 1, 0)), ())
        self.assertIs(place_covers(DOOR, ("work", 1, 0), (0, 0, 0)), False)
        # A task can be begun in a mode in which it cannot go on.
        self.assertEqual(place_tops(DOOR, ("work", 0, 0)), ((0, 0, 0),))
        self.assertEqual(place_tops(JOBS.with_begin((0, 0)), ("job", 0, 0)), ())
        self.assertEqual(place_tops(JOBS.with_begin((0, 1)), ("src", 0, 0)), ())

    def test_a_task_that_never_ends(self):
        stuck = Procedure("p", 2, ("post", 0, 1, "q", (0,)))
        program = Program(1, (0,), (1, 0), stuck, Procedure("q", 1, LEAVE))
        self.assertEqual(place_tops(program, ("p", 1, 0)), ((0, 1),))
        self.assertEqual(place_tops(program, ("q", 0, 0)), ())

    def test_great_numbers(self):
        self.assertIs(place_covers(JOBS, FAR, (0, HUGE)), True)
        self.assertIs(place_covers(JOBS, FAR, (1, HUGE)), False)
        self.assertIs(place_covers(JOBS.with_begin((HUGE, 0)), FAR, (HUGE - 1, HUGE)), True)
        self.assertEqual(place_tops(JOBS.with_begin((HUGE, 0)), FAR), ((HUGE - 1, ANY),))


class UsesTest(unittest.TestCase):
    def check(self, program, place, path, value, right):
        self.assertIs(is_path_uses(program, place, path, value), right, value)

    def test_right_ones(self):
        place, uses = ("open", 1, 1), {("go", "open", 0, 0, 1): 1, ("stop", "open", 1, 1): 1}
        self.check(DOOR, place, ("open", 0, 0), uses, True)
        self.check(DOOR, place, ("open", 1, 1), {("stop", "open", 1, 1): 1}, True)
        self.check(DOOR, place, ("open", 1, 0), uses, False)
        self.check(DOOR, place, ("work", 0, 0), uses, False)
        for value in near_uses(uses):
            self.check(DOOR, place, ("open", 0, 0), value, False)

    def test_calls_that_are_left_and_calls_that_are_not(self):
        place = ("tree", 2, 0)
        inner = {("leave", "tree", 0, 0): 1}
        passed = {("pass", "tree", 1, 0, 0): 1, ("post", "tree", 2, 0): 1, ("stop", "tree", 2, 0): 1, **inner}
        self.check(TREE, place, ("tree", 0, 0), passed, True)
        self.check(TREE, place, ("tree", 0, 0), {**passed, ("enter", "tree", 1, 0): 10 ** 30}, True)
        self.check(TREE, place, ("tree", 0, 0), {("enter", "tree", 1, 0): 1, ("stop", "tree", 2, 0): 1}, False)
        # One more call within the one that is left, by rules of ways.
        more = {**passed, ("call", "tree", 1, 0, 0, 0): 1, ("post", "tree", 2, 0, 0): 1, ("leave", "tree", 3, 0): 1}
        self.check(TREE, place, ("tree", 0, 0), more, True)
        more["leave", "tree", 0, 0] = 2
        self.check(TREE, place, ("tree", 0, 0), more, False)
        more["leave", "tree", 0, 0] = 1
        del more["pass", "tree", 1, 0, 0]
        self.check(TREE, place, ("tree", 0, 0), more, False)
        for value in near_uses(passed):
            self.check(TREE, place, ("tree", 0, 0), value, False)

    def test_they_have_to_be_joined(self):
        uses = {("stop", "src", 0, 0): 1, ("post", "src", 0, 0): 5}
        self.check(JOBS, FAR, FAR, uses, True)
        self.check(JOBS, FAR, FAR, {("stop", "src", 0, 0): 1}, True)
        # The rounds by rules of ways balance, but no path leads to them.
        self.check(JOBS, FAR, FAR, {("stop", "src", 0, 0): 1, ("post", "src", 0, 0, 0): 5}, False)

    def test_all_rules_by_words(self):
        for seed in range(20):
            program = loose(seed)
            place = random.Random(seed).choice(places_of(program))
            rules = {**rules_by_words(program), **path_rules_by_words(program, place)}
            for rule, (own, behind, _) in rules.items():
                path = (program.names[0], 0, 0)
                balanced = own == path and not behind
                self.check(program, place, path, {rule: 1}, balanced)
            paper = place_paper(program, place, (0,) * len(program))
            if paper[0] == "plan":
                self.assertTrue(set(paper[4]) <= set(rules))

    def test_told_for_bags(self):
        for many in (0, 1, 7, HUGE):
            paper = place_paper(TREE, ("tree", 1, 0), (0, many))
            self.assertEqual(paper[:4], ("plan", 0, (), "tree"))
            self.check(TREE, ("tree", 1, 0), ("tree", 0, 0), paper[4], True)
            for value in near_uses(paper[4]):
                self.check(TREE, ("tree", 1, 0), ("tree", 0, 0), value, False)

    def test_errors(self):
        for value in odd_values():
            if not isinstance(value, Program):
                self.assertRaises(InvalidProgram, is_path_uses, value, None, None, None)
            self.assertRaises(InvalidPlace, is_path_uses, DOOR, value, None, None)
            self.assertRaises(InvalidPlace, is_path_uses, DOOR, ("open", 0, 0), value, None)
            self.check(DOOR, ("open", 0, 0), ("open", 0, 0), value, False)
            if isinstance(value, (str, int, type(None))):
                self.check(DOOR, ("open", 0, 0), ("open", 0, 0), {value: 1}, False)
            right = type(value) is int and value == 1
            self.check(DOOR, ("open", 0, 0), ("open", 0, 0), {("stop", "open", 0, 0): value}, right)
        for place in (("open", 3, 0), ("open", 0, 2), ("door", 0, 0), ["open", 0, 0]):
            self.assertRaises(InvalidPlace, is_path_uses, DOOR, place, ("open", 0, 0), {})
            self.assertRaises(InvalidPlace, is_path_uses, DOOR, ("open", 0, 0), place, {})

    def test_wrong_rules(self):
        path, right = ("open", 0, 0), {("stop", "open", 0, 0): 1}
        self.check(DOOR, path, path, {("stop", "open", False, 0): 1}, False)
        for rule in (("stop", "open", 0, 1), ("stop", "open", 0), ("stop", "open", 0, 0, 0),
                     ("go", "open", 0, 0, 0), ("go", "open", 0, 1, 1), ("go", "open", 3, 0, 1), ("go", "work", 0, 0, 1),
                     ("post", "open", 1, 0), ("post", "open", 0, 1), ("pass", "open", 1, 1, 0), ("enter", "open", 1, 1),
                     ("leave", "open", 2, 0), ("call", "open", 1, 1, 1), (), ("stop",), "stop", None, 1, (None,) * 4):
            self.check(DOOR, path, path, {**right, rule: 1}, False)
            self.check(DOOR, path, path, {rule: 1}, False)


def near_uses(uses):
    """Dicts that are nearly uses, and are none; lists and the like."""
    found = [list(uses.items()), tuple(uses), {}, None]
    for rule in uses:
        found.append({other: uses[other] for other in uses if other != rule})
        # Rounds can be made once more where the rule leads from a path to itself.
        if uses[rule] == 1:
            for many in (0, -1, True, "1", None):
                found.append({**uses, rule: many})
        if rule[0] in ("stop", "leave", "pass"):
            found.append({**uses, rule: uses[rule] + 1})
    return found


class PapersTest(unittest.TestCase):
    def check(self, program, place, bag, value, right):
        self.assertIs(is_place_paper(program, place, bag, value), right, value)

    def test_told_and_judged(self):
        kinds = []
        for seed in range(120):
            program = onward(seed, modes=3) if seed % 2 else loose(seed, modes=3)
            source = random.Random(seed)
            place = source.choice(places_of(program))
            bag = tuple(source.choice((0, 0, 1, 2)) for _ in program.names)
            paper = place_paper(program, place, bag)
            self.check(program, place, bag, paper, True)
            self.assertIs(paper[0] == "plan", place_covers(program, place, bag))
            if paper[0] == "plan":
                self.assertTrue(is_plan(program, paper[1:3]))
                self.check(program, place, bag, ("bar", Tops(program).rows), False)
            else:
                self.assertEqual(paper, ("bar", Tops(program).rows))
                self.assertIs(is_bar(program, paper[1]), True)
            kinds.append(paper[0])
        self.assertGreater(min(kinds.count("plan"), kinds.count("bar")), 30)

    def test_plans(self):
        place, uses = ("open", 1, 1), {("go", "open", 0, 0, 1): 1, ("stop", "open", 1, 1): 1}
        paper = ("plan", 0, (), "open", uses)
        self.check(DOOR, place, (0, 0, 1), paper, True)
        self.check(DOOR, place, (0, 0, 0), paper, True)
        for bag in ((1, 0, 1), (0, 1, 1), (0, 0, 2)):
            self.check(DOOR, place, bag, paper, False)
        for value in (("plan", 1, (), "open", uses), ("plan", 0, (), "work", uses), ("plan", 0, (), "shut", uses),
                      ("plan", 0, ()), ("plan", 0, (), "open"), ("plan", 0, (), "open", uses, 0), list(paper),
                      ("plan", 0, [], "open", uses), ("bar", 0, (), "open", uses), (0, (), "open", uses),
                      ("plan", 0, (), None, uses), ("plan", 0, (), ["open"], uses), ("plan", False, (), "open", uses)):
            self.check(DOOR, place, (0, 0, 1), value, False)
        for value in near_uses(uses):
            self.check(DOOR, place, (0, 0, 1), ("plan", 0, (), "open", value), False)

    def test_the_task_has_to_wait(self):
        uses = {("stop", "job", 0, 0): 1}
        self.check(JOBS, ("job", 0, 0), (0, 0), ("plan", 0, (), "job", uses), False)
        made = ("src", 0, {("leave", "src", 1, 0): 1, ("post", "src", 0, 0, 0): 2})
        self.check(JOBS, ("job", 0, 0), (0, 0), ("plan", 0, (made,), "job", uses), True)
        self.check(JOBS, ("job", 0, 0), (0, 1), ("plan", 0, (made,), "job", uses), True)
        self.check(JOBS, ("job", 0, 0), (0, 2), ("plan", 0, (made,), "job", uses), False)
        self.check(JOBS, ("job", 0, 0), (0, 0), ("plan", 0, (made, made), "job", uses), False)

    def test_posts_of_the_path_count(self):
        for many in (0, 3, HUGE):
            uses = {("stop", "src", 0, 0): 1, ("post", "src", 0, 0): many} if many else {("stop", "src", 0, 0): 1}
            for wanted in (0, 3, HUGE):
                self.check(JOBS, FAR, (0, wanted), ("plan", 0, (), "src", uses), wanted <= many)
            self.check(JOBS, FAR, (1, 0), ("plan", 0, (), "src", uses), False)

    def test_bars(self):
        tops = Tops(DOOR).rows
        place, bag = ("open", 1, 1), (1, 0, 0)
        self.check(DOOR, place, bag, ("bar", tops), True)
        self.check(DOOR, place, (0, 0, 1), ("bar", tops), False)
        for value in (("bar", tops[1:]), ("bar", tops[::-1]), ("bar", list(tops)), ("bar",), ("bar", tops, ()), tops, ("bar", ()),
                      ("plan", tops), ("bar", tops + ((1, (9, 9, 9)),)), ("bar", None), ("BAR", tops)):
            self.check(DOOR, place, bag, value, False)
        # More standings are a bar as well, if they lead to the place with no more.
        self.check(DOOR, ("work", 1, 0), (0, 0, 0), ("bar", tops), True)
        self.check(JOBS, FAR, (1, 0), ("bar", ((0, (1, ANY)),)), True)
        self.check(JOBS, FAR, (1, 0), ("bar", ((0, (2, ANY)),)), False)
        self.check(JOBS, FAR, (2, 0), ("bar", ((0, (2, ANY)),)), True)

    def test_no_paper(self):
        for value in odd_values():
            self.check(DOOR, ("open", 1, 1), (0, 0, 0), value, False)
            self.check(DOOR, ("open", 1, 1), (1, 0, 0), ("bar", value), False)
            self.check(DOOR, ("open", 1, 1), (1, 0, 0), ("bar", (value,)), False)
            for at in range(1, 5):
                paper = ["plan", 0, (), "open", {("go", "open", 0, 0, 1): 1, ("stop", "open", 1, 1): 1}]
                paper[at] = value
                self.check(DOOR, ("open", 1, 1), (0, 0, 0), tuple(paper), at == 1 and type(value) is int and value == 0)

    def test_nothing_is_changed_and_nothing_is_kept(self):
        paper = ("plan", 0, (), "open", {("stop", "open", 1, 1): 1, ("go", "open", 0, 0, 1): 1})
        kept = copy.deepcopy(paper)
        self.check(DOOR, ("open", 1, 1), (0, 0, 1), paper, True)
        self.assertEqual((paper, list(paper[4])), (kept, list(kept[4])))
        told = place_paper(TREE, ("tree", 2, 0), (0, 3))
        again = copy.deepcopy(told)
        told[4].clear()
        self.assertEqual(place_paper(TREE, ("tree", 2, 0), (0, 3)), again)


class LimitsTest(unittest.TestCase):
    def check(self, limit, call, *told):
        with self.assertRaises(TooMany) as caught:
            call(*told)
        self.assertEqual(caught.exception.limit, limit)

    def test_more_than_a_thousand_takes(self):
        place = ("b", 0, 0)
        self.assertEqual(len(place_paper(CLOCK, place, (0, 999))[2]), 1000)
        self.assertIs(place_covers(CLOCK, place, (0, 10 ** 30)), True)
        self.check(1000, place_paper, CLOCK, place, (0, 1000))
        self.check(1000, place_paper, CLOCK, place, (0, HUGE))
        self.assertEqual(place_paper(CLOCK, place, (2, HUGE))[0], "bar")

    def test_tops(self):
        program = TURNS.with_begin((HUGE, 0))
        for call in (lambda *told: place_covers(*told, (0, 0)), place_tops, lambda *told: place_paper(*told, (0, 0))):
            self.check(400, call, program, ("p", 0, 0))
        # A plan is a plan all the same.
        self.assertIs(is_place_paper(program, ("p", 0, 0), (9, 0), ("plan", 0, (), "p", {("stop", "p", 0, 0): 1})), True)

    def test_gains(self):
        program = MANY.with_procedure(caller("t", "s", "p")).with_begin((0, 0, 0, 0, 1))
        self.check(400, path_gains, program, "t", 0, ("t", 2, 0))
        for call in (lambda *told: place_covers(*told, (0,) * 5), place_tops, lambda *told: place_paper(*told, (0,) * 5)):
            self.check(400, call, program, ("t", 2, 0))
        self.assertEqual(path_gains(MANY, "p", 0, ("p", 1, 0)), ((0, 1, 0, 0, 0), (1, 0, 0, 0, 0)))

    def test_paths_that_lead_through_others_with_more_gains(self):
        # The path of t has 20 times 20 bags, and then one more choice; the one of s has any number of all tasks.
        inner = Procedure("t", 5, ("call", 0, 1, "r", (0,)), ("call", 1, 2, "p", (0,)), ("call", 2, 3, "p", (0,)),
                          ("post", 3, 4, "p", (0,)), ("post", 3, 4, "q", (0,)))
        outer = Procedure("s", 2, *[("post", 0, 0, name, (0,)) for name in "pqrs"], ("call", 0, 1, "t", (0,)))
        program = MANY.with_procedure(inner).with_procedure(outer)
        self.assertEqual(len(path_gains(program, "t", 0, ("t", 3, 0))), 400)
        place = ("t", 4, 0)
        for names in ("sts", "tst"):
            again = Program.of(1, (0,), program.begin, program.procedures)
            for name in names:
                if name == "t":
                    self.check(400, path_gains, again, "t", 0, place)
                else:
                    self.assertEqual(path_gains(again, "s", 0, place), ((ANY, ANY, ANY, ANY, 0),))

    def test_tops_of_places(self):
        # There are not more than 400 tops, but at the end of the task each one goes with two bags.
        first = Procedure("a", 2, ("post", 0, 1, "b", (0,)), ("leave", 1, (0,)))
        second = Procedure("c", 2, ("post", 0, 1, "a", (0,)), ("post", 0, 1, "d", (0,)))
        program = Program(1, (0,), (300, 0, 1, 0), first, *quiet("b"), second, *quiet("d"))
        self.assertEqual(len(Tops(program)), 301)
        self.check(400, place_tops, program, ("c", 1, 0))
        self.check(400, place_covers, program, ("c", 1, 0), (0, 0, 0, 0))
        self.assertEqual(len(place_tops(program, ("c", 0, 0))), 301)

    def test_in_good_time(self):
        for seed in range(6):
            program = full(seed)
            source = random.Random(seed)
            for place in source.sample(places_of(program), 3):
                try:
                    tops = place_tops(program, place)
                except TooMany as error:
                    self.assertEqual(error.limit, 400)
                else:
                    paper = place_paper(program, place, (0, 1, 0, 0, 2))
                    self.assertIs(is_place_paper(program, place, (0, 1, 0, 0, 2), paper), True)
                    self.assertEqual(paper[0] == "plan", any(is_below((0, 1, 0, 0, 2), wide) for wide in tops))


class ErrorsTest(unittest.TestCase):
    def test_in_their_order(self):
        for value in odd_values():
            if not isinstance(value, Program):
                for call in (is_place, lambda one, two: path_gains(one, two, two, two), place_tops,
                             lambda one, two: place_covers(one, two, two), lambda one, two: place_paper(one, two, two),
                             lambda one, two: is_place_paper(one, two, two, two)):
                    self.assertRaises(InvalidProgram, call, value, None)
            with self.assertRaises(UnknownName) as caught:
                path_gains(DOOR, value, None, None)
            self.assertIs(caught.exception.name, value)
            if type(value) is not int or value not in (0, 1):
                self.assertRaises(InvalidMode, path_gains, DOOR, "open", value, None)
            for call in (lambda *told: path_gains(DOOR, "open", 0, told[0]), lambda *told: place_tops(DOOR, told[0]),
                         lambda *told: place_covers(DOOR, *told), lambda *told: place_paper(DOOR, *told),
                         lambda *told: is_place_paper(DOOR, *told, None)):
                self.assertRaises(InvalidPlace, call, value, None)
            for call in (place_covers, place_paper, lambda *told: is_place_paper(*told, None)):
                self.assertRaises(InvalidBag, call, DOOR, ("open", 0, 0), value)
        for call in (place_covers, place_paper, lambda *told: is_place_paper(*told, None)):
            for bag in ((0, 0), (0, 0, 0, 0), (0, 0, ANY), (0, True, 0), [0, 0, 0]):
                self.assertRaises(InvalidBag, call, DOOR, ("open", 0, 0), bag)
            self.assertRaises(InvalidPlace, call, DOOR, ("open", 3, 0), None)
            self.assertRaises(InvalidBag, call, TURNS.with_begin((HUGE, 0)), ("p", 0, 0), (0,))
        self.assertRaises(InvalidPlace, place_tops, TURNS.with_begin((HUGE, 0)), ("p", 2, 0))
        self.assertRaises(InvalidPlace, path_gains, MANY, "t", 0, ("t", 9, 0))
        self.assertRaises(UnknownName, path_gains, DOOR, "door", 9, None)
        self.assertRaises(InvalidMode, path_gains, DOOR, "open", 2, None)


if __name__ == "__main__":
    unittest.main()
