"""[0.8], [0.10] and stage 3: programs."""

import copy
import itertools
import unittest

from postedbag.base.programs import Procedure, Program
from postedbag.errors import InvalidOperation, InvalidProgram, UnknownName, UnknownSite
from tests.samples import DOOR, HUGE, JOBS, LEAVE, OPEN, SHUT, TREE, WORK, can_be_made, nested, odd_values

SRC, JOB = JOBS.procedures
ONES = tuple(Procedure(name, 1, LEAVE) for name in "abcdef")
# What holds for each of these is a bag, or a set of starts, of no program with two procedures and one mode.
NO_STARTS = [*odd_values(), (), (1,), (-1,), (0, 0), (0, 1), [0], {0: 0}, (False,), (0, True)]
NO_BAGS = [*odd_values(), (), (1,), (0, 0, 0), (0, -1), (-1, 0), (0, True), (False, 0), (0, None), [0, 0], (0, (0,))]


def is_right(*arguments):
    """Whether a program can be made, directly and by `of` alike."""
    modes, starts, begin, *procedures = arguments
    return can_be_made(lambda: Program(*arguments), lambda: Program.of(modes, starts, begin, tuple(procedures)))


def parts_of(program):
    """All that a program tells of itself."""
    return (program.modes, program.starts, program.begin, program.procedures)


class MakingTest(unittest.TestCase):
    def test_modes(self):
        for modes in range(-2, 9):
            self.assertEqual(is_right(modes, (0,), (1, 0), SRC, JOB), 1 <= modes <= 5, modes)
        for modes in odd_values():
            if modes != 1 or modes is True:
                self.assertFalse(is_right(modes, (0,), (1, 0), SRC, JOB), modes)

    def test_starts(self):
        for starts in ((0,), (1,), (2,), (0, 1), (0, 2), (1, 2), (0, 1, 2)):
            self.assertEqual(Program(3, starts, (1, 0), SRC, JOB).starts, starts)
        for starts in ((), (3,), (-1,), (1, 0), (0, 0), (0, 3), (0, 1, 2, 3), [0], [0, 1], (True,), (0, True), (HUGE,)):
            self.assertFalse(is_right(3, starts, (1, 0), SRC, JOB), starts)
        for starts in NO_STARTS:
            self.assertFalse(is_right(1, starts, (1, 0), SRC, JOB), starts)

    def test_begin(self):
        for begin in ((0, 0), (1, 0), (0, HUGE), (HUGE, HUGE)):
            self.assertEqual(Program(1, (0,), begin, SRC, JOB).begin, begin)
        for begin in NO_BAGS:
            self.assertFalse(is_right(1, (0,), begin, SRC, JOB), begin)

    def test_how_many_procedures(self):
        for many in range(7):
            for bag in range(7):
                right = 1 <= many <= 5 and bag == many
                self.assertEqual(is_right(1, (0,), (0,) * bag, *ONES[:many]), right, (many, bag))

    def test_procedures_of_other_kinds(self):
        for value in odd_values():
            if not isinstance(value, Procedure):
                self.assertFalse(is_right(1, (0,), (1, 0, 0), SRC, JOB, value), value)
                self.assertFalse(is_right(1, (0,), (0,), value), value)
        for value in ("job", ("job", 1, (LEAVE,)), [JOB], (JOB,), JOBS):
            self.assertFalse(is_right(1, (0,), (1, 0), SRC, value), value)

    def test_of_takes_a_tuple_only(self):
        for value in ([SRC, JOB], {}, None, "", 0, SRC, JOBS, True):
            with self.assertRaises(InvalidProgram):
                Program.of(1, (0,), (1, 0), value)
        with self.assertRaises(InvalidProgram):
            Program(1, (0,), (1, 0), (SRC, JOB))

    def test_equal_names(self):
        self.assertFalse(is_right(1, (0,), (0, 0), JOB, JOB))
        self.assertFalse(is_right(1, (0,), (0, 0, 0), JOB, SRC, Procedure("job", 2)))

    def test_names_of_calls_and_posts(self):
        for kind in ("call", "post"):
            for name in ("job", "other"):
                self.assertTrue(is_right(1, (0,), (0, 0), Procedure("other", 1, (kind, 0, 0, name, (0,))), JOB))
            wrong = Procedure("other", 1, LEAVE, (kind, 0, 0, "gone", (0,)))
            self.assertFalse(is_right(1, (0,), (0, 0), wrong, JOB))
            self.assertFalse(is_right(1, (0,), (0, 0), JOB, wrong))
        self.assertFalse(is_right(1, (0,), (0,), SRC))

    def test_modes_of_moves(self):
        for mode in range(5):
            for move in (("leave", 0, (mode,)), ("go", 0, 0, ((0, mode),)), ("go", 0, 0, ((mode, 0),)),
                         ("call", 0, 0, "p", (mode,)), ("post", 0, 0, "p", (mode,))):
                procedure = Procedure("p", 1, LEAVE, move)
                for modes in range(1, 6):
                    self.assertEqual(is_right(modes, (0,), (0,), procedure), mode < modes, (modes, move))

    def test_all_wrong_at_once(self):
        self.assertFalse(is_right(0, (), ()))
        self.assertFalse(is_right(None, None, None, None))
        self.assertFalse(is_right(True, [0], [1], JOB, JOB))

    def test_what_is_passed_is_not_changed(self):
        lists = [[0], [1, 0], [SRC, JOB]]
        kept = copy.deepcopy(lists)
        for call in (lambda: Program(1, lists[0], (1, 0), SRC, JOB), lambda: Program(1, (0,), lists[1], SRC, JOB),
                     lambda: Program.of(1, (0,), (1, 0), lists[2])):
            with self.assertRaises(InvalidProgram):
                call()
        self.assertEqual(lists, kept)


class OfAProgramTest(unittest.TestCase):
    def test_properties(self):
        self.assertEqual(parts_of(DOOR), (2, (0,), (1, 0, 1), (OPEN, WORK, SHUT)))
        self.assertEqual(DOOR.names, ("open", "work", "shut"))
        self.assertEqual(parts_of(Program.of(2, (0,), (1, 0, 1), (OPEN, WORK, SHUT))), parts_of(DOOR))
        self.assertIs(type(Program.of(1, (0,), (0,), (JOB,))), Program)

    def test_posts_and_calls_in_their_order(self):
        both = (("call", 0, 0, "p", (0,)), ("post", 0, 0, "a", (0,)), ("call", 0, 0, "p", (0,)), LEAVE)
        program = Program(1, (0,), (0, 0, 0), Procedure("p", 1, *both), Procedure("b", 1), Procedure("a", 1, *both[1:]))
        self.assertEqual(program.calls, (("p", 0), ("p", 2), ("a", 1)))
        self.assertEqual(program.posts, (("p", 1), ("a", 0)))
        self.assertEqual((DOOR.posts, DOOR.calls), ((("open", 1), ("work", 0)), ()))
        self.assertEqual((TREE.posts, TREE.calls), ((("tree", 2),), (("tree", 1),)))

    def test_it_never_changes(self):
        for name in ("modes", "starts", "begin", "procedures", "names", "posts", "calls"):
            with self.assertRaises(AttributeError):
                setattr(DOOR, name, getattr(DOOR, name))
        with self.assertRaises(TypeError):
            DOOR["open"] = OPEN

    def test_procedures_by_name(self):
        for procedure in DOOR.procedures:
            self.assertEqual(DOOR[procedure.called], procedure)
        for name in ("gone", "src", "", 0, 1, -1, HUGE, slice(0, 1), *odd_values()):
            with self.assertRaises(UnknownName) as caught:
                DOOR[name]
            self.assertIs(caught.exception.name, name)

    def test_moves_by_site(self):
        for procedure in DOOR.procedures:
            for index, move in enumerate(procedure.moves):
                self.assertEqual(DOOR.move((procedure.called, index)), move)
        wrong = (("open", 3), ("open", -1), ("work", 2), ("open", True), ("open", False), ("open", None), ("open", "0"),
                 ("open", (0,)), ("open", HUGE), ("gone", 0), (0, "open"), ("open",), ("open", 0, 0), (),
                 ["open", 0], "open", (OPEN, 0), ("open", [0]), (["open"], 0), (("open",), 0), {"open": 0},
                 *odd_values())
        for site in wrong:
            with self.assertRaises(UnknownSite) as caught:
                DOOR.move(site)
            self.assertIs(caught.exception.site, site)

    def test_in_and_length(self):
        for name in DOOR.names:
            self.assertIs(name in DOOR, True)
        for value in ("gone", "src", ("open",), OPEN, 0, *odd_values()):
            self.assertIs(value in DOOR, False)
            self.assertIs(value not in DOOR, True)
        self.assertEqual([len(JOBS), len(DOOR)], [2, 3])
        self.assertEqual([len(Program.of(1, (0,), (0,) * n, ONES[:n])) for n in range(1, 6)], [1, 2, 3, 4, 5])

    def test_it_cannot_be_iterated_over(self):
        for call in (iter, list, tuple, sorted, set, dict, enumerate, lambda x: [*x], lambda x: next(iter(x))):
            with self.assertRaises(TypeError):
                call(DOOR)

    def test_equality(self):
        self.assertTrue(DOOR == DOOR)
        self.assertTrue(DOOR == Program(2, (0,), (1, 0, 1), *DOOR.procedures))
        self.assertFalse(DOOR != Program(2, (0,), (1, 0, 1), *DOOR.procedures))
        others = (
            Program(3, (0,), (1, 0, 1), OPEN, WORK, SHUT), Program(2, (1,), (1, 0, 1), OPEN, WORK, SHUT),
            Program(2, (0, 1), (1, 0, 1), OPEN, WORK, SHUT), Program(2, (0,), (1, 1, 1), OPEN, WORK, SHUT),
            Program(2, (0,), (1, 0, 1), SHUT, WORK, OPEN), Program(2, (0,), (1, 0), OPEN, WORK),
            Program(2, (0,), (1, 0, 1), OPEN, WORK, Procedure("shut", 2)), JOBS, TREE, OPEN, parts_of(DOOR),
            *odd_values(),
        )
        for other in others:
            self.assertIs(DOOR == other, False)
            self.assertIs(DOOR != other, True)
            self.assertIs(other == DOOR, False)
            self.assertIs(other != DOOR, True)

    def test_text(self):
        self.assertEqual(str(JOBS), "program of 2 procedures, 1 modes")
        self.assertEqual(str(DOOR), "program of 3 procedures, 2 modes")
        self.assertEqual(str(Program(5, (4,), (0,), JOB)), "program of 1 procedures, 5 modes")


class ChangedTest(unittest.TestCase):
    """The calls that give another program."""

    def setUp(self):
        self.kept = {program: parts_of(value) for program, value in (("jobs", JOBS), ("door", DOOR), ("tree", TREE))}

    def tearDown(self):
        for program, value in (("jobs", JOBS), ("door", DOOR), ("tree", TREE)):
            self.assertEqual(parts_of(value), self.kept[program])

    def refuse(self, call, value):
        with self.assertRaises(InvalidOperation, msg=repr(value)) as caught:
            call(value)
        self.assertIs(type(caught.exception), InvalidOperation)

    def test_with_starts(self):
        for starts in ((0,), (1,), (0, 1)):
            changed = DOOR.with_starts(starts)
            self.assertEqual(parts_of(changed), (2, starts, (1, 0, 1), DOOR.procedures))
        for starts in [*odd_values(), (), (2,), (-1,), (0, 0), (1, 0), (0, 1, 2), [0], (True,), (0, True), (False, 1)]:
            self.refuse(DOOR.with_starts, starts)
        for starts in NO_STARTS:
            self.refuse(JOBS.with_starts, starts)

    def test_with_begin(self):
        for begin in ((0, 0), (3, 4), (HUGE, 0)):
            changed = JOBS.with_begin(begin)
            self.assertEqual(parts_of(changed), (1, (0,), begin, JOBS.procedures))
        for begin in NO_BAGS:
            self.refuse(JOBS.with_begin, begin)

    def test_with_procedure_in_the_place_of_another(self):
        for at, name in enumerate(DOOR.names):
            new = Procedure(name, 1, ("leave", 0, (1,)))
            changed = DOOR.with_procedure(new)
            self.assertEqual(changed.procedures, DOOR.procedures[:at] + (new,) + DOOR.procedures[at + 1:])
            self.assertEqual(parts_of(changed)[:3], (2, (0,), (1, 0, 1)))

    def test_with_procedure_as_the_last_one(self):
        new = Procedure("new", 1, ("post", 0, 0, "new", (1,)), ("call", 0, 0, "open", (0,)))
        changed = DOOR.with_procedure(new)
        self.assertEqual(parts_of(changed), (2, (0,), (1, 0, 1, 0), DOOR.procedures + (new,)))

    def test_with_procedure_errors(self):
        for value in odd_values():
            if not isinstance(value, Procedure):
                self.refuse(JOBS.with_procedure, value)
        for value in ("src", (SRC,), [SRC], ("src", 1, (LEAVE,)), JOBS):
            self.refuse(JOBS.with_procedure, value)
        for name in ("src", "new"):
            self.refuse(JOBS.with_procedure, Procedure(name, 1, ("leave", 0, (1,))))
            self.refuse(JOBS.with_procedure, Procedure(name, 1, ("go", 0, 0, ((0, 1),))))
            self.refuse(JOBS.with_procedure, Procedure(name, 1, ("post", 0, 0, "gone", (0,))))
            self.refuse(JOBS.with_procedure, Procedure(name, 1, ("call", 0, 0, "gone", (0,))))
        full = Program.of(1, (0,), (0,) * 5, ONES[:5])
        self.refuse(full.with_procedure, ONES[5])
        self.assertEqual(full.with_procedure(Procedure("e", 1)).procedures[4], Procedure("e", 1))

    def test_without(self):
        three = Program(1, (0,), (5, 6, 7), *ONES[:3])
        for at, name in enumerate("abc"):
            changed = three.without(name)
            begin = three.begin[:at] + three.begin[at + 1:]
            self.assertEqual(parts_of(changed), (1, (0,), begin, ONES[:at] + ONES[at + 1:3]))
        self.assertEqual(JOBS.without("src").names, ("job",))
        own = Procedure("own", 1, ("call", 0, 0, "own", (0,)), ("post", 0, 0, "own", (0,)))
        self.assertEqual(Program(1, (0,), (1, 2), own, JOB).without("own").begin, (2,))

    def test_without_errors(self):
        for name in ("gone", 0, SRC, *odd_values()):
            with self.assertRaises(UnknownName) as caught:
                JOBS.without(name)
            self.assertIs(caught.exception.name, name)
        self.refuse(JOBS.without, "job")
        self.refuse(DOOR.without, "work")
        self.refuse(Program(1, (0,), (0, 0), Procedure("p", 1, ("call", 0, 0, "job", (0,))), JOB).without, "job")
        single = Program(1, (0,), (1,), JOB)
        self.refuse(single.without, "job")
        with self.assertRaises(UnknownName):
            single.without("gone")

    def test_without_posts(self):
        moves = (("post", 0, 1, "job", (0, 2)), LEAVE, ("post", 1, 0, "p", (1,)), ("call", 0, 0, "job", (0,)))
        gone = {0: ("go", 0, 1, ((0, 0), (2, 2))), 2: ("go", 1, 0, ((1, 1),))}
        program = Program(3, (1,), (4, 5), Procedure("p", 2, *moves), JOB)
        for length in range(4):
            for indices in itertools.product((0, 2), repeat=length):
                changed = program.without_posts(tuple(("p", index) for index in indices))
                now = tuple(gone[at] if at in indices else move for at, move in enumerate(moves))
                self.assertEqual(parts_of(changed), (3, (1,), (4, 5), (Procedure("p", 2, *now), JOB)))
        self.assertEqual(program.without_posts(()), program)

    def test_without_posts_of_several_procedures(self):
        self.assertEqual(DOOR.without_posts(DOOR.posts[::-1] * 2).posts, ())
        self.assertEqual(DOOR.without_posts((("work", 0),)).posts, (("open", 1),))
        self.assertEqual(DOOR.without_posts((("work", 0),))["work"].moves[0], ("go", 0, 1, ((1, 1),)))

    def test_without_posts_errors(self):
        for sites in (None, 0, "", "open", [], [("open", 1)], {}, {("open", 1): 0}, True, OPEN, DOOR):
            with self.assertRaises(UnknownSite) as caught:
                DOOR.without_posts(sites)
            self.assertIs(caught.exception.site, sites)
        wrong = [*odd_values(), ("open", 0), ("open", 2), ("open", 3), ("open", -2), ("open", True), ("work", False),
                 ("shut", 0), ("gone", 0), ["open", 1], ("open", 1, 1), (("open", 1),), "open", 1]
        for site in wrong:
            for sites in ((site,), (("open", 1), site), (("work", 0), site, "later", ("open", 1)), (site, ())):
                with self.assertRaises(UnknownSite) as caught:
                    DOOR.without_posts(sites)
                self.assertIs(caught.exception.site, site)
        with self.assertRaises(UnknownSite) as caught:
            TREE.without_posts((("tree", 1),))
        self.assertEqual(caught.exception.site, ("tree", 1))

    def test_renamed(self):
        names = {"job": "work", "src": "job"}
        changed = JOBS.renamed(names)
        self.assertEqual(names, {"job": "work", "src": "job"})
        self.assertEqual(list(names), ["job", "src"])
        first = Procedure("job", 1, ("post", 0, 0, "work", (0,)), LEAVE)
        self.assertEqual(parts_of(changed), (1, (0,), (1, 0), (first, Procedure("work", 1, LEAVE))))
        self.assertEqual(JOBS.renamed({"src": "job", "job": "work"}), changed)

    def test_renamed_in_part_and_in_turn(self):
        tree = TREE.renamed({"tree": "bush"})
        self.assertEqual(tree.names, ("bush", "job"))
        self.assertEqual(tree["bush"].moves, (LEAVE, ("call", 0, 1, "bush", (0,)), *TREE["tree"].moves[2:]))
        swapped = DOOR.renamed({"open": "work", "work": "open"})
        self.assertEqual(swapped.names, ("work", "open", "shut"))
        self.assertEqual(swapped.posts, (("work", 1), ("open", 0)))
        self.assertEqual([swapped.move(site)[3] for site in swapped.posts], ["open", "work"])
        self.assertEqual(swapped.renamed({"open": "work", "work": "open"}), DOOR)
        self.assertEqual(JOBS.renamed({}), JOBS)
        self.assertEqual(JOBS.renamed({"src": "src"}), JOBS)

    def test_renamed_errors(self):
        for value in odd_values():
            self.refuse(JOBS.renamed, value)
        for value in odd_values():
            self.refuse(JOBS.renamed, {"src": value})
            self.refuse(JOBS.renamed, {"job": "work", "src": value})
        for name in ("gone", "", 0, 1, True, None, ("src",), nested(tuple, 12), "SRC"):
            self.refuse(JOBS.renamed, {name: "work"})
            self.refuse(JOBS.renamed, {"job": "work", name: "other"})
        self.refuse(JOBS.renamed, {"src": "job"})
        self.refuse(JOBS.renamed, {"src": "same", "job": "same"})
        self.refuse(JOBS.renamed, [("src", "work")])
        self.refuse(JOBS.renamed, (("src", "work"),))
        self.refuse(JOBS.renamed, {"src": ["work"]})

    def test_a_dict_that_is_kept_outside_gives_no_access(self):
        names = {"src": "one"}
        changed = JOBS.renamed(names)
        names["src"] = "two"
        self.assertEqual(changed.names, ("one", "job"))


if __name__ == "__main__":
    unittest.main()
