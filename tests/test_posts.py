"""[0.27], [0.28], [0.29] and stage 17: posts left out."""

import itertools
import random
import unittest

from postedbag.ask.covers import covers
from postedbag.ask.rows import are_long, greatest_length
from postedbag.base.programs import Procedure, Program
from postedbag.compare.posts import calm_cuts, cuts, idle_posts, is_cut
from postedbag.compare.programs import covers_no_more, covers_same
from postedbag.errors import InvalidBag, InvalidMode, InvalidProgram, TooMany, UnknownSite
from tests.randoms import loose, onward
from tests.samples import DOOR, HUGE, JOBS, LEAVE, TREE, odd_values
from tests.test_gains import MANY
from tests.test_tops import TURNS, plain, post, quiet

# Each of two posts makes the same task.
TWIN = Program(1, (0,), (1, 0), plain("p", post("q"), post("q")), *quiet("q"))
EIGHT = Procedure("p", 2, *[post("q")] * 8, ("leave", 1, (0,)))
NINE = Procedure("p", 2, *[post("q")] * 9, ("leave", 1, (0,)))


def sets_by_words(program, holds):
    """The ascending tuple of the least sets of posts without which something holds, by trying all sets."""
    posts = sorted(program.posts)
    found = [some for many in range(len(posts) + 1) for some in itertools.combinations(posts, many)
             if holds(program.without_posts(some))]
    return tuple(sorted(some for some in found if not any(set(other) < set(some) for other in found)))


def small_programs(many):
    """So many programs with at most six posts."""
    for seed in range(many):
        program = onward(seed, 3, 2, 3) if seed % 2 else loose(seed)
        if len(program.posts) <= 6:
            yield seed, program


class CutsTest(unittest.TestCase):
    def test_by_trying_all_sets(self):
        sizes = []
        for seed, program in small_programs(120):
            source = random.Random(seed)
            mode = source.randrange(program.modes)
            bag = tuple(source.choice((0, 0, 1, 2)) for _ in program.names)
            told = cuts(program, mode, bag)
            self.assertEqual(told, sets_by_words(program, lambda less: not covers(less, mode, bag)), seed)
            sizes.extend(len(some) for some in told)
            posts = list(program.posts)
            for _ in range(4):
                some = tuple(source.sample(posts, source.randint(0, len(posts))))
                self.assertIs(is_cut(program, mode, bag, some), any(set(cut) <= set(some) for cut in told))
        self.assertGreater(max(sizes), 1)
        self.assertIn(0, sizes)

    def test_never_and_always_covered(self):
        self.assertEqual(cuts(DOOR, 1, (1, 1, 0)), ((),))
        self.assertEqual(cuts(DOOR, 0, (1, 0, 1)), ())
        self.assertEqual(cuts(JOBS, 0, (0, 0)), ())
        self.assertIs(is_cut(DOOR, 1, (1, 1, 0), ()), True)
        self.assertIs(is_cut(DOOR, 0, (1, 0, 1), DOOR.posts), False)

    def test_one_and_several(self):
        self.assertEqual(cuts(JOBS, 0, (0, 5)), ((("src", 0),),))
        self.assertEqual(cuts(TWIN, 0, (0, 1)), ((("p", 0), ("p", 1)),))
        self.assertEqual(cuts(DOOR, 1, (1, 0, 1)), ((("open", 1),), (("work", 0),)))
        self.assertIs(is_cut(TWIN, 0, (0, 1), (("p", 0),)), False)
        self.assertIs(is_cut(TWIN, 0, (0, 1), (("p", 1), ("p", 0))), True)

    def test_more_twice_and_out_of_order(self):
        for sites in ((("open", 1),), (("work", 0), ("open", 1)), (("open", 1),) * 3, (("work", 0), ("open", 1), ("work", 0))):
            self.assertIs(is_cut(DOOR, 1, (1, 0, 1), sites), True)
        self.assertIs(is_cut(DOOR, 1, (0, 1, 1), (("work", 0),) * 2), False)

    def test_great_bags(self):
        self.assertEqual(cuts(JOBS, 0, (0, HUGE)), ((("src", 0),),))
        self.assertEqual(cuts(JOBS, 0, (HUGE, 0)), ((),))
        self.assertIs(is_cut(TREE, 0, (0, HUGE), TREE.posts), True)

    def test_eight_posts_and_nine(self):
        program = Program(1, (0,), (1, 0), EIGHT, *quiet("q"))
        self.assertEqual(cuts(program, 0, (0, 1)), (tuple(("p", at) for at in range(8)),))
        self.assertEqual(cuts(program, 0, (1, 0)), ())
        self.assertEqual(calm_cuts(program), ((),))
        program = program.with_procedure(NINE)
        for call in (lambda: cuts(program, 0, (0, 1)), lambda: calm_cuts(program)):
            with self.assertRaises(TooMany) as caught:
                call()
            self.assertEqual(caught.exception.limit, 8)
        self.assertIs(is_cut(program, 0, (0, 1), program.posts), True)
        self.assertEqual(idle_posts(program), program.posts)


class IdleTest(unittest.TestCase):
    def test_by_the_words(self):
        found = []
        for seed, program in small_programs(120):
            told = idle_posts(program)
            self.assertEqual(told, tuple(sorted(
                site for site in program.posts if covers_same(program, program.without_posts((site,)))
            )))
            found.append(len(told))
        self.assertGreater(len(set(found)), 3)

    def test_not_idle_together(self):
        self.assertEqual(idle_posts(TWIN), (("p", 0), ("p", 1)))
        self.assertIs(covers_same(TWIN, TWIN.without_posts(TWIN.posts)), False)
        self.assertEqual(cuts(TWIN, 0, (0, 1)), ((("p", 0), ("p", 1)),))
        self.assertEqual(idle_posts(DOOR), ())

    def test_never_more(self):
        for seed, program in small_programs(60):
            for site in program.posts:
                less = program.without_posts((site,))
                self.assertIs(covers_no_more(less, program), True)
                if greatest_length(program) is not None:
                    self.assertLessEqual(greatest_length(less), greatest_length(program))


class CalmTest(unittest.TestCase):
    def test_by_trying_all_sets(self):
        sizes = []
        for seed, program in small_programs(120):
            told = calm_cuts(program)
            self.assertEqual(told, sets_by_words(program, lambda less: not are_long(less)), seed)
            sizes.extend(len(some) for some in told)
        self.assertGreater(max(sizes), 1)

    def test_the_documents_programs(self):
        self.assertEqual(calm_cuts(JOBS), ((("src", 0),),))
        self.assertEqual(calm_cuts(TREE), ((("tree", 2),),))
        self.assertEqual(calm_cuts(DOOR), ((),))

    def test_rows_that_are_long_without_posts(self):
        # A take that posts nothing takes one task away: without posts no rows are long.
        for seed in range(60):
            program = loose(seed)
            self.assertIs(are_long(program.without_posts(program.posts)), False)


class ErrorsTest(unittest.TestCase):
    def test_in_their_order(self):
        for value in odd_values():
            if not isinstance(value, Program):
                for call in (lambda one: cuts(one, None, None), lambda one: is_cut(one, None, None, None), idle_posts, calm_cuts):
                    self.assertRaises(InvalidProgram, call, value)
            for call in (cuts, lambda *told: is_cut(*told, None)):
                if type(value) is not int or value not in (0, 1):
                    self.assertRaises(InvalidMode, call, DOOR, value, None)
                self.assertRaises(InvalidBag, call, DOOR, 0, value)
            if value != ():
                with self.assertRaises(UnknownSite) as caught:
                    is_cut(DOOR, 0, (0, 0, 0), value)
                told = caught.exception.site
                self.assertTrue(told is value or (isinstance(value, tuple) and told is value[0]))

    def test_sites(self):
        for sites, site in (
            ((("open", 0),), ("open", 0)), ((("open", 1), ("open", 2)), ("open", 2)), ((("open", 3),), ("open", 3)),
            ((("open", 1), ("door", 0), ("open", 0)), ("door", 0)), ((["open", 1],), ["open", 1]), (("open", 1), "open"),
            ([("open", 1)], [("open", 1)]), ((("open", True),), ("open", True)), (None, None),
        ):
            with self.assertRaises(UnknownSite) as caught:
                is_cut(DOOR, 0, (0, 0, 0), sites)
            self.assertEqual(caught.exception.site, site)
        self.assertRaises(InvalidBag, is_cut, DOOR, 0, (0, 0), ("no",))

    def test_too_many(self):
        for program in (TURNS.with_begin((HUGE, 0)), MANY.with_begin((0, 0, 0, 0, 1))):
            nothing = (0,) * len(program)
            for call in (lambda: cuts(program, 0, nothing), lambda: is_cut(program, 0, nothing, ()),
                         lambda: idle_posts(program), lambda: calm_cuts(program)):
                with self.assertRaises(TooMany) as caught:
                    call()
                self.assertEqual(caught.exception.limit, 400)
            self.assertRaises(InvalidBag, cuts, program, 0, nothing[1:])
            self.assertRaises(UnknownSite, is_cut, program, 0, nothing, None)
        # Without the post there are few tops.
        self.assertIs(is_cut(TURNS.with_begin((HUGE, 0)), 0, (0, 1), (("p", 0),)), True)
        nine = Program(1, (0,), (HUGE, 0), NINE, *quiet("q"))
        for call in (lambda: cuts(nine, 0, (0, 1)), lambda: calm_cuts(nine)):
            with self.assertRaises(TooMany) as caught:
                call()
            self.assertEqual(caught.exception.limit, 8)
        self.assertRaises(InvalidMode, cuts, nine, 1, (0, 1))


if __name__ == "__main__":
    unittest.main()
