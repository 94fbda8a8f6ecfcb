"""[0.23], [12.1] and stage 12: needs."""

import copy
import itertools
import random
import unittest

from postedbag.ask.covers import covers, least_takes
from postedbag.ask.needs import is_needs, needs, needs_in
from postedbag.base.bags import ANY
from postedbag.base.programs import Procedure, Program
from postedbag.errors import InvalidBag, InvalidMode, InvalidNumber, InvalidProgram, TooMany
from postedbag.plan import needed
from postedbag.plan.leads import leads_to
from tests.randoms import full, loose, onward
from tests.samples import DOOR, HUGE, JOBS, TREE, odd_values
from tests.test_gains import MANY
from tests.test_tops import gains_of_tasks, plain, post, quiet
from tests.words import is_below, least_by_words, takes_of

CALLS = (needs, lambda *told: needs_in(*told, 3), lambda *told: is_needs(*told, {}))
# Each task a makes one task b and comes again.
CLOCK = Program(
    1, (0,), (1, 0),
    Procedure("a", 3, ("post", 0, 1, "a", (0,)), ("post", 1, 2, "b", (0,)), ("leave", 2, (0,))), *quiet("b"),
)
# A task p becomes a task q, and this one a task r.
STEPS = Program(1, (0,), (1, 0, 0), plain("p", post("q")), plain("q", post("r")), *quiet("r"))


def tables_by_words(program, mode, bag, most):
    """[12.1], step by step: the tables for rows of at most 0, 1 and more takes, as long as they change."""
    takes = takes_of(program, gains_of_tasks(program))
    table = {other: (bag,) if other == mode else () for other in range(program.modes)}
    yield table
    for _ in range(most):
        more = {other: list(bags) for other, bags in table.items()}
        for at, ahead, end, gain in takes:
            for need in table[end]:
                rest = [0 if entry == ANY else max(0, wanted - entry) for wanted, entry in zip(need, gain)]
                rest[at] += 1
                more[ahead].append(tuple(rest))
        more = {other: tuple(sorted(least_by_words(bags))) for other, bags in more.items()}
        if more == table:
            return
        table = more
        yield table


def random_bag(source, program, entries=(0, 0, 1, 2, 3)):
    """A mode and a bag of a program."""
    return source.randrange(program.modes), tuple(source.choice(entries) for _ in program.names)


def rows_come(program, mode, bag, end, most):
    """Whether some row of at most so many takes leads from a mode and a bag to an end, by trying all of them."""
    takes = takes_of(program, gains_of_tasks(program))
    level = {(mode, bag)}
    for _ in range(most + 1):
        if any(own == end[0] and is_below(end[1], wide) for own, wide in level):
            return True
        level = {
            (behind, tuple(ANY if ANY in (many, more) else many - (index == at) + more
                           for index, (many, more) in enumerate(zip(wide, gain))))
            for own, wide in level for at, ahead, behind, gain in takes if own == ahead and wide[at] != 0
        }
    return False


class NeedsTest(unittest.TestCase):
    def test_by_the_words(self):
        found = set()
        for seed in range(160):
            program = onward(seed, modes=3) if seed % 2 else loose(seed, modes=3)
            mode, bag = random_bag(random.Random(seed), program)
            tables = list(tables_by_words(program, mode, bag, 99))
            self.assertEqual(needs(program, mode, bag), tables[-1], seed)
            for takes in (0, 1, 2, 5, 60):
                self.assertEqual(needs_in(program, mode, bag, takes), tables[min(takes, len(tables) - 1)], (seed, takes))
            self.assertEqual(list(needs(program, mode, bag)), list(range(program.modes)))
            found.add(len(tables))
        self.assertGreater(max(found), 4)

    def test_all_rows_from_small_bags(self):
        for seed in range(60):
            program = loose(seed, procedures=2) if seed % 2 else onward(seed, procedures=2, points=3)
            source = random.Random(seed)
            mode, bag = random_bag(source, program)
            table = needs_in(program, mode, bag, 3)
            for start in range(program.modes):
                for less in itertools.product(range(3), repeat=len(program)):
                    told = any(is_below(need, less) for need in table[start])
                    self.assertIs(told, rows_come(program, start, less, (mode, bag), 3), (seed, start, less))

    def test_from_there_the_bag_is_covered(self):
        for seed in range(60):
            program = loose(seed, modes=3)
            mode, bag = random_bag(random.Random(seed), program)
            table = needs(program, mode, bag)
            for start in range(program.modes):
                for less in itertools.product(range(3), repeat=len(program)):
                    begun = program.with_starts((start,)).with_begin(less)
                    told = any(is_below(need, less) for need in table[start])
                    self.assertIs(covers(begun, mode, bag), told)

    def test_a_row_without_takes_counts(self):
        self.assertEqual(needs(JOBS, 0, (0, 0)), {0: ((0, 0),)})
        self.assertEqual(needs(STEPS, 0, (2, 0, 0)), {0: ((2, 0, 0),)})
        self.assertEqual(needs_in(DOOR, 1, (1, 2, 3), 0), {0: (), 1: ((1, 2, 3),)})

    def test_modes_without_needs(self):
        # Nothing leads back from the mode 1 to the mode 0, and the mode 2 is on its own.
        there = Procedure("p", 2, ("go", 0, 1, ((0, 1),)), ("leave", 1, (1,)))
        program = Program(3, (0,), (1,), there)
        self.assertEqual(needs(program, 0, (0,)), {0: ((0,),), 1: (), 2: ()})
        self.assertEqual(needs(program, 1, (3,)), {0: ((4,),), 1: ((3,),), 2: ()})
        self.assertEqual(needs_in(program, 1, (3,), 60), {0: ((4,),), 1: ((3,),), 2: ()})

    def test_any_number(self):
        for many in (1, 2, 10 ** 6, HUGE):
            self.assertEqual(needs(JOBS, 0, (0, many)), {0: ((0, many), (1, 0))})
            self.assertEqual(needs(JOBS, 0, (1, many)), {0: ((1, many), (2, 0))})
            self.assertEqual(needs(TREE, 0, (0, many)), {0: ((0, many), (1, 0))})
            self.assertEqual(needs_in(JOBS, 0, (0, many), 0), {0: ((0, many),)})

    def test_great_numbers(self):
        self.assertEqual(needs(JOBS, 0, (HUGE, HUGE)), {0: ((HUGE, HUGE), (HUGE + 1, 0))})
        self.assertEqual(needs_in(STEPS, 0, (0, 0, HUGE), 1), {0: ((0, 0, HUGE), (0, 1, HUGE - 1))})

    def test_sixty_takes_come_to_all(self):
        for seed in range(80):
            program = loose(seed, modes=3)
            mode, bag = random_bag(random.Random(seed), program)
            self.assertEqual(needs_in(program, mode, bag, 60), needs(program, mode, bag))
        self.assertNotEqual(needs_in(CLOCK, 0, (0, 61), 60), needs(CLOCK, 0, (0, 61)))
        self.assertEqual(needs_in(CLOCK, 0, (0, 60), 60), needs(CLOCK, 0, (0, 60)))

    def test_answers_can_be_changed(self):
        for call in (lambda: needs(DOOR, 0, (1, 0, 0)), lambda: needs_in(DOOR, 0, (1, 0, 0), 1)):
            told = call()
            kept = dict(told)
            told.clear()
            self.assertEqual(call(), kept)


class OtherwiseTest(unittest.TestCase):
    """Where there are many needs for rows of few takes, they are worked out in another way."""

    def test_both_ways_tell_the_same(self):
        for seed in range(120):
            program = onward(seed, modes=3) if seed % 2 else loose(seed, modes=3)
            mode, bag = random_bag(random.Random(seed), program, (0, 0, 1, 2, 3, 9))
            told = needed.worked_out(program, mode, bag)
            self.assertEqual(needed.worked_out_otherwise(program, mode, bag), told, seed)

    def test_bags_that_soon_do_not_matter(self):
        # On the way to many tasks there are ever more bags, but in the end a single task of any kind does.
        program = onward(211, 3, 2, 3, 12)
        bag, ones = (500, HUGE, 500), ((0, 0, 1), (0, 1, 0), (1, 0, 0))
        table = needs(program, 1, bag)
        self.assertEqual(table, {0: ones, 1: ones})
        self.assertIs(is_needs(program, 1, bag, table), True)
        self.assertIs(is_needs(program, 1, bag, {0: ones, 1: ones[:2]}), False)

    def test_leads(self):
        for seed in range(40):
            program = loose(seed, modes=3)
            source = random.Random(seed)
            mode, bag = random_bag(source, program)
            start, less = random_bag(source, program)
            begun = program.with_starts((start,)).with_begin(less)
            self.assertIs(leads_to(program, start, less, (mode, bag)), covers(begun, mode, bag))
        self.assertIs(leads_to(CLOCK, 0, (1, 0), (0, (0, HUGE))), True)
        self.assertIs(leads_to(CLOCK, 0, (0, 9), (0, (0, HUGE))), False)
        self.assertIs(leads_to(STEPS, 0, (HUGE, 0, 0), (0, (0, 0, HUGE))), True)
        self.assertIs(leads_to(STEPS, 0, (HUGE - 1, 0, 0), (0, (0, 0, HUGE))), False)


class LimitsTest(unittest.TestCase):
    def check(self, limit, call, *told):
        with self.assertRaises(TooMany) as caught:
            call(*told)
        self.assertEqual(caught.exception.limit, limit)

    def test_just_a_thousand_takes(self):
        self.assertEqual(needs(CLOCK, 0, (0, 1000)), {0: ((0, 1000), (1, 0))})
        self.assertEqual(least_takes(CLOCK, 0, (0, 1000)), 1000)
        self.check(1000, needs, CLOCK, 0, (0, 1001))
        self.check(1000, needs, CLOCK, 0, (0, HUGE))
        self.check(1000, needs, STEPS, 0, (0, 0, 501))
        self.check(1000, needs, STEPS, 0, (0, 0, HUGE))

    def test_more_than_four_hundred(self):
        # There are 27 * 28 / 2 needs of 26 tasks r, and 28 * 29 / 2 of 27 ones.
        self.assertEqual(len(needs(STEPS, 0, (0, 0, 26))[0]), 378)
        self.check(400, needs, STEPS, 0, (0, 0, 27))
        self.check(400, needs, STEPS, 0, (0, 0, 100))
        self.assertEqual(len(needs_in(STEPS, 0, (0, 0, 27), 60)[0]), 406)
        # They count for all modes together.
        both = Program(2, (0,), (0, 0, 0), *[
            Procedure(name, 2, *[("post", 0, 1, other, (0, 1))] * (name != other), ("leave", 1, (0, 1)))
            for name, other in ("pq", "qr", "rr")
        ])
        self.assertEqual([len(bags) for bags in needs(both, 1, (0, 0, 26)).values()], [0, 378])
        turn = Procedure("r", 2, ("go", 0, 1, ((0, 1),)), ("leave", 1, (1,)))
        self.check(400, needs, both.with_procedure(turn), 1, (0, 0, 20))
        self.assertEqual(len(needs_in(both.with_procedure(turn), 1, (0, 0, 20), 60)[1]), 231)

    def test_a_thousand_comes_ahead_of_four_hundred(self):
        self.check(1000, needs, STEPS, 0, (0, 0, 10 ** 6))
        self.check(1000, needs, STEPS, 0, (HUGE, HUGE, HUGE))

    def test_gains(self):
        for call in (needs, lambda *told: needs_in(*told, 3)):
            self.check(400, call, MANY, 0, (0, 0, 0, 0, 1))
        # A row without takes asks for no gains.
        self.assertEqual(needs_in(MANY, 0, (0, 0, 0, 0, 1), 0), {0: ((0, 0, 0, 0, 1),)})

    def test_in_good_time(self):
        source = random.Random(8)
        for seed in range(40):
            program = onward(seed, procedures=3, modes=2, points=3) if seed % 2 else loose(seed)
            mode, bag = random_bag(source, program, (0, 7, 60, 500, HUGE))
            try:
                table = needs(program, mode, bag)
            except TooMany as error:
                self.assertIn(error.limit, (400, 1000))
            else:
                self.assertIs(is_needs(program, mode, bag, table), True)
        for seed in range(4):
            try:
                needs(full(seed), 0, (0, 1, 0, 2, 0))
            except TooMany as error:
                self.assertIn(error.limit, (400, 1000))


class JudgedTest(unittest.TestCase):
    def test_the_needs_and_no_others(self):
        for seed in range(60):
            program = loose(seed, modes=3)
            mode, bag = random_bag(random.Random(seed), program)
            table = needs(program, mode, bag)
            self.assertIs(is_needs(program, mode, bag, table), True)
            self.assertIs(is_needs(program, mode, bag, {other: table[other] for other in list(table)[::-1]}), True)
            for value in near(table):
                self.assertIs(is_needs(program, mode, bag, value), False, (seed, value))

    def test_needs_that_are_not_told(self):
        for many in (1001, HUGE):
            table = {0: ((0, many), (1, 0))}
            self.assertIs(is_needs(CLOCK, 0, (0, many), table), True)
            for value in [*near(table), {0: ((0, many),)}, {0: ((0, many), (1, 1))}, {0: ((0, 1), (1, 0))}]:
                self.assertIs(is_needs(CLOCK, 0, (0, many), value), False, value)
        rows = tuple((p, q, 27 - p - q) for p in range(28) for q in range(28 - p))
        self.assertIs(is_needs(STEPS, 0, (0, 0, 27), {0: rows}), True)
        self.assertIs(is_needs(STEPS, 0, (0, 0, 27), {0: rows[1:]}), False)
        self.assertIs(is_needs(STEPS, 0, (0, 0, HUGE), {0: ((0, 0, HUGE), (0, 1, 0), (1, 0, 0))}), False)
        self.assertIs(is_needs(STEPS, 0, (0, 0, HUGE), {0: ((0, 0, 0),)}), False)

    def test_other_values(self):
        for value in odd_values():
            self.assertIs(is_needs(DOOR, 0, (1, 0, 0), value), False)
            table = needs(DOOR, 0, (1, 0, 0))
            self.assertIs(is_needs(DOOR, 0, (1, 0, 0), {**table, 0: value}), False)
            self.assertIs(is_needs(DOOR, 0, (1, 0, 0), {**table, 0: (value,)}), False)
        self.assertIs(is_needs(JOBS, 0, (0, 3), {0: ((0, 3), (1, 0))}), True)
        self.assertIs(is_needs(JOBS, 0, (0, 3), {0: ((False, 3), (1, 0))}), False)
        self.assertIs(is_needs(JOBS, 0, (0, 3), {False: ((0, 3), (1, 0))}), False)
        self.assertIs(is_needs(JOBS, 0, (0, 3), {0: ((0, 3), (True, 0))}), False)
        self.assertIs(is_needs(DOOR, 0, (1, 0, 0), {0: ((1, 0, 0),), True: ((0, 1, 1), (1, 0, 1))}), False)

    def test_nothing_is_changed(self):
        table = needs(DOOR, 0, (1, 0, 0))
        kept = copy.deepcopy(table)
        self.assertIs(is_needs(DOOR, 0, (1, 0, 0), table), True)
        self.assertEqual(table, kept)


def near(table):
    """Dicts that are nearly a table, and are none."""
    found = [[*table.items()], tuple(table.items()), {**table, len(table): ()}, {**table, -1: ()}, {}]
    for mode, bags in table.items():
        found.append({other: table[other] for other in table if other != mode})
        found.extend([{**table, mode: list(bags)}, {**table, mode: tuple(list(bag) for bag in bags) or None}])
        found.append({**table, mode: bags + ((0,) * 6,)})
        for at, bag in enumerate(bags):
            found.append({**table, mode: bags[:at] + bags[at + 1:]})
            found.append({**table, mode: bags[:at] + (bag,) + bags[at:]})
            found.append({**table, mode: bags[:at] + (bag + (0,),) + bags[at + 1:]})
            for index, many in enumerate(bag):
                for entry in (many - 1, many + 1, ANY, None, str(many)):
                    other = bag[:index] + (entry,) + bag[index + 1:]
                    found.append({**table, mode: bags[:at] + (other,) + bags[at + 1:]})
        if len(bags) > 1:
            found.append({**table, mode: bags[::-1]})
    return found


class ErrorsTest(unittest.TestCase):
    def test_in_their_order(self):
        for value in odd_values():
            for call in CALLS:
                if not isinstance(value, Program):
                    with self.assertRaises(InvalidProgram):
                        call(value, None, None)
                if type(value) is not int or value not in (0, 1):
                    with self.assertRaises(InvalidMode):
                        call(DOOR, value, None)
                with self.assertRaises(InvalidBag):
                    call(DOOR, 0, value)
            if type(value) is not int or not 0 <= value <= 60:
                with self.assertRaises(InvalidNumber) as caught:
                    needs_in(DOOR, 0, (0, 0, 0), value)
                self.assertIs(caught.exception.value, value)
        for call in CALLS:
            for bag in ((0, 0), (0, 0, 0, 0), (0, 0, ANY), (0, True, 0), [0, 0, 0]):
                self.assertRaises(InvalidBag, call, DOOR, 0, bag)
            self.assertRaises(InvalidMode, call, DOOR, 2, None)

    def test_numbers_of_takes(self):
        for takes in (-1, 61, HUGE, True, None, "1", (1,)):
            self.assertRaises(InvalidNumber, needs_in, DOOR, 0, (0, 0, 0), takes)
        self.assertRaises(InvalidBag, needs_in, DOOR, 0, (0, 0), 61)
        # The number comes ahead of what is too many.
        self.assertRaises(InvalidNumber, needs_in, MANY, 0, (0, 0, 0, 0, 1), 61)

    def test_too_many_comes_last(self):
        self.assertRaises(InvalidMode, needs, MANY, 1, (0, 0, 0, 0, 1))
        self.assertRaises(InvalidBag, needs, MANY, 0, (0, 0, 0, 1))
        # What is no table of needs by its form asks for no gains.
        self.assertIs(is_needs(MANY, 0, (0, 0, 0, 0, 1), {0: [(0, 0, 0, 0, 1)]}), False)


if __name__ == "__main__":
    unittest.main()
