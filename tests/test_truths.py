"""[0.28] and [0.29]: what is true of all programs, and programs of which the other sentences are not true."""

import itertools
import random
import unittest

from postedbag.ask.covers import cover_paper, covers
from postedbag.ask.piles import can_pile, is_bounded, most_waiting
from postedbag.ask.places import place_covers
from postedbag.ask.rows import are_long, greatest_length
from postedbag.base.bags import ANY
from postedbag.base.programs import Procedure, Program
from postedbag.compare.posts import idle_posts, is_cut
from postedbag.compare.programs import covers_no_more, covers_same
from postedbag.know.gains import gains
from postedbag.plan.tops import Tops
from tests.randoms import loose, onward
from tests.samples import JOBS
from tests.test_needs import CLOCK
from tests.test_piles import EITHER
from tests.test_places import places_of
from tests.test_posts import TWIN
from tests.test_rows import ONCE
from tests.test_tops import TURNS


class TrueTest(unittest.TestCase):
    def test_more_waiting_tasks_bar_nothing(self):
        for seed in range(40):
            program = onward(seed, 3, 2, 3) if seed % 2 else loose(seed)
            source = random.Random(seed)
            more = program.with_begin(tuple(many + source.choice((0, 0, 1, 5)) for many in program.begin))
            self.assertIs(covers_no_more(program, more), True)
            for place in places_of(program):
                if place_covers(program, place, (0,) * len(program)):
                    self.assertIs(place_covers(more, place, (0,) * len(program)), True)

    def test_posts_that_are_left_out(self):
        for seed in range(40):
            program = onward(seed, 3, 2, 3) if seed % 2 else loose(seed)
            for many in range(1, 3):
                for sites in itertools.combinations(program.posts, many):
                    less = program.without_posts(sites)
                    self.assertIs(covers_no_more(less, program), True)
                    self.assertFalse(are_long(less) and not are_long(program))

    def test_a_greatest_length_with_any_number_of_tasks(self):
        self.assertEqual((greatest_length(ONCE), most_waiting(ONCE, "end"), is_bounded(ONCE)), (2, ANY, False))

    def test_calls_change_only_the_gains(self):
        # What a called procedure does can stand in its caller as well.
        inner = Procedure("r", 2, ("post", 0, 1, "q", (0,)), ("leave", 1, (0,)))
        calling = Procedure("p", 3, ("call", 0, 1, "r", (0,)), ("call", 1, 2, "r", (0,)), ("leave", 2, (0,)))
        posting = Procedure("p", 3, ("post", 0, 1, "q", (0,)), ("post", 1, 2, "q", (0,)), ("leave", 2, (0,)))
        quiet_one = Procedure("q", 1, ("leave", 0, (0,)))
        one = Program(1, (0,), (3, 0, 1), calling, quiet_one, inner)
        other = one.with_procedure(posting)
        self.assertEqual(gains(one, ("p", 0, 0, 0)), gains(other, ("p", 0, 0, 0)))
        self.assertIs(covers_same(one, other), True)
        self.assertEqual(greatest_length(one), greatest_length(other))


class NotTrueTest(unittest.TestCase):
    def test_long_rows_need_not_go_on_for_ever(self):
        # Behind the only task that posts, each take takes one more task away.
        self.assertIs(are_long(JOBS), True)
        for many in (0, 1, 300):
            self.assertEqual(greatest_length(JOBS.with_begin((0, many))), many)

    def test_any_number_of_each_is_not_any_number_of_both(self):
        self.assertTrue(can_pile(EITHER, ("left",)) and can_pile(EITHER, ("right",)))
        self.assertIs(can_pile(EITHER, ("left", "right")), False)

    def test_the_greatest_numbers_need_not_be_at_one_time(self):
        program = TURNS.with_begin((3, 0))
        self.assertEqual([most_waiting(program, name) for name in program.names], [3, 3])
        self.assertEqual(Tops(program).rows, tuple((0, (many, 3 - many)) for many in range(4)))

    def test_two_posts_that_are_not_idle_together(self):
        self.assertEqual(idle_posts(TWIN), TWIN.posts)
        self.assertEqual([is_cut(TWIN, 0, (0, 1), sites) for sites in ((), TWIN.posts[:1], TWIN.posts[1:], TWIN.posts)],
                         [False, False, False, True])

    def test_a_task_may_have_to_be_taken_twice(self):
        self.assertIs(covers(CLOCK, 0, (1, 2)), True)
        self.assertEqual([name for name, _, _ in cover_paper(CLOCK, 0, (1, 2))[2]], ["a", "a"])


if __name__ == "__main__":
    unittest.main()
