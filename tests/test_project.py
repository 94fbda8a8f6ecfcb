"""[18.1] and stage 18: a project with promises."""

import itertools
import unittest

from postedbag.base.bags import ANY
from postedbag.base.programs import Procedure, Program
from postedbag.errors import (
    InvalidNumber, InvalidOperation, InvalidProgram, NothingToUndo, Refused, TooMany, UnknownName, UnknownSite,
)
from postedbag.house.project import Project
from tests.samples import DOOR, HUGE, JOBS, LEAVE, OPEN, SHUT, TREE, WORK, odd_values
from tests.test_gains import MANY
from tests.test_rows import waiting
from tests.test_tops import TURNS, plain, post, quiet

# Promises about DOOR that are kept, and such as are not.
KEPT = (
    ("reached", 1, (1, 0, 1)), ("reached", 0, (0, 0, 0)), ("barred", 1, (1, 1, 0)), ("barred", 0, (HUGE, 0, 0)),
    ("away", ("work", 1, 0)), ("atmost", "open", 1), ("atmost", "work", HUGE), ("short",),
)
BROKEN = (
    ("reached", 1, (1, 1, 0)), ("barred", 1, (1, 0, 1)), ("barred", 0, (0, 0, 0)), ("away", ("open", 2, 1)),
    ("away", ("work", 0, 0)), ("atmost", "open", 0),
)
NONE = (
    (), ("short", ()), ("short", 1), ("reached",), ("reached", 1), ("reached", 2, (0, 0, 0)), ("reached", 0, (0, 0)),
    ("reached", 0, (0, 0, ANY)), ("reached", 0, [0, 0, 0]), ("reached", True, (0, 0, 0)), ("reached", 0, (0, 0, 0), 0),
    ("barred", 0), ("barred", (0, 0, 0), 0), ("away",), ("away", "open", 0, 0), ("away", ("open", 3, 0)),
    ("away", ["open", 0, 0]), ("away", ("open", 0, 0), 0), ("atmost", "open"), ("atmost", "door", 1),
    ("atmost", "open", -1), ("atmost", "open", ANY), ("atmost", "open", True), ("atmost", 1, "open"), ("atmost", "open", 1, 1),
    ("Short",), ("long",), ("",), (None,), (1,), ((),), (("short",),), ("reached", "open", 1),
)
IDLE = Procedure("idle", 1, LEAVE)


def state_of(project):
    """All that a project tells of itself."""
    return project.program, project.promises, project.deeds, len(project), str(project)


class PromisesTest(unittest.TestCase):
    def test_kept_ones(self):
        project = Project(DOOR)
        for at, parts in enumerate(KEPT):
            name = "abcdefgh"[at]
            self.assertIsNone(project.promise(name, *parts))
            self.assertEqual(project[name], parts)
            self.assertIn(name, project)
        self.assertEqual(project.promises, {"abcdefgh"[at]: parts for at, parts in enumerate(KEPT)})
        self.assertEqual(project.deeds, ("promise",) * len(KEPT))
        self.assertEqual((len(project), str(project)), (8, "project with 8 promises"))

    def test_broken_ones(self):
        project = Project(DOOR)
        for parts in BROKEN:
            with self.assertRaises(Refused) as caught:
                project.promise("name", *parts)
            self.assertEqual(caught.exception.name, "name")
        with self.assertRaises(Refused):
            Project(JOBS).promise("calm", "short")
        with self.assertRaises(Refused):
            Project(JOBS).promise("few", "atmost", "job", HUGE)
        self.assertEqual(state_of(project), state_of(Project(DOOR)))

    def test_no_promises(self):
        project = Project(DOOR)
        for parts in NONE:
            self.assertRaises(InvalidOperation, project.promise, "name", *parts)
        for value in odd_values():
            for parts in ((value,), ("short", value), ("away", value), ("reached", value, (0, 0, 0)), ("atmost", value, 1)):
                if parts[:2] not in (("reached", 0), ("reached", 1)) or isinstance(value, bool):
                    self.assertRaises(InvalidOperation, project.promise, "name", *parts)
        self.assertEqual(state_of(project), state_of(Project(DOOR)))

    def test_names(self):
        project = Project(DOOR)
        project.promise("calm", "short")
        for name in ("", "Calm", "toolongname", "a b", "a1", *odd_values()):
            self.assertRaises(InvalidOperation, project.promise, name, "short")
        self.assertRaises(InvalidOperation, project.promise, "calm", "short")
        # The name comes first, then the form, then whether it is kept.
        self.assertRaises(InvalidOperation, project.promise, "calm", "atmost", "open", 0)
        self.assertRaises(InvalidOperation, project.promise, "other", "atmost", "open", -1)
        self.assertRaises(Refused, project.promise, "other", "atmost", "open", 0)
        self.assertEqual(project.promises, {"calm": ("short",)})

    def test_in_ascending_order(self):
        project = Project(DOOR)
        for name in ("mid", "zoo", "abc"):
            project.promise(name, "short")
        self.assertEqual(list(project.promises), ["abc", "mid", "zoo"])

    def test_forgotten_ones(self):
        project = Project(DOOR)
        project.promise("calm", "short")
        self.assertIsNone(project.forget("calm"))
        self.assertNotIn("calm", project)
        self.assertEqual(project.deeds, ("promise", "forget"))
        for name in ("calm", *odd_values()):
            with self.assertRaises(UnknownName) as caught:
                project.forget(name)
            self.assertIs(caught.exception.name, name)
        project.promise("calm", "atmost", "open", 1)
        self.assertEqual(project["calm"], ("atmost", "open", 1))

    def test_too_many(self):
        project = Project(TURNS.with_begin((HUGE, 0)))
        for parts in (("reached", 0, (0, 0)), ("barred", 0, (0, 0)), ("away", ("p", 0, 0)), ("atmost", "p", 1), ("short",)):
            with self.assertRaises(TooMany) as caught:
                project.promise("name", *parts)
            self.assertEqual(caught.exception.limit, 400)
        self.assertRaises(InvalidOperation, project.promise, "name", "reached", 1, (0, 0))
        self.assertEqual(project.deeds, ())
        # Each promise asks for what it needs only: rows of 401 takes do not matter for what is covered.
        project = Project(waiting(401))
        self.assertIsNone(project.promise("name", "reached", 0, (401,)))
        self.assertRaises(TooMany, project.promise, "other", "short")


class ChangesTest(unittest.TestCase):
    def test_the_program(self):
        project = Project(DOOR)
        calls = (
            ("put", IDLE, DOOR.with_procedure(IDLE)),
            ("hush", (("open", 1),), DOOR.with_procedure(IDLE).without_posts((("open", 1),))),
            ("restart", (0, 1), DOOR.with_procedure(IDLE).without_posts((("open", 1),)).with_starts((0, 1))),
            ("rebegin", (1, 2, 3, 4), DOOR.with_procedure(IDLE).without_posts((("open", 1),)).with_starts((0, 1))
             .with_begin((1, 2, 3, 4))),
        )
        for at, (name, value, program) in enumerate(calls):
            self.assertIsNone(getattr(project, name)(value))
            self.assertEqual(project.program, program)
            self.assertEqual(project.deeds, tuple(told for told, _, _ in calls[:at + 1]))

    def test_their_own_errors(self):
        project = Project(DOOR)
        # Also where a promise would break.
        project.promise("calm", "short")
        for value in odd_values():
            if not isinstance(value, Procedure):
                self.assertRaises(InvalidOperation, project.put, value)
            if value != ():
                self.assertRaises(UnknownSite, project.hush, value)
            self.assertRaises(InvalidOperation, project.restart, value)
            self.assertRaises(InvalidOperation, project.rebegin, value)
        self.assertRaises(InvalidOperation, project.put, Procedure("p", 1, ("call", 0, 0, "none", (0,))))
        self.assertRaises(UnknownSite, project.hush, (("open", 0),))
        self.assertRaises(InvalidOperation, project.restart, (2,))
        self.assertRaises(InvalidOperation, project.rebegin, (1, 1))
        self.assertEqual(project.deeds, ("promise",))

    def test_promises_that_would_break(self):
        project = Project(DOOR)
        project.promise("zoo", "reached", 1, (1, 0, 1))
        project.promise("mid", "atmost", "work", 1)
        project.promise("calm", "short")
        before = state_of(project)
        loop = Procedure("work", 2, ("post", 0, 1, "work", (1,)), ("post", 0, 1, "open", (1,)), ("leave", 1, (1,)))
        for call, name in (
            (lambda: project.hush((("open", 1),)), "zoo"), (lambda: project.rebegin((0, 2, 1)), "mid"),
            (lambda: project.rebegin((0, 0, 0)), "zoo"), (lambda: project.put(loop), "calm"),
            (lambda: project.put(IDLE), "zoo"), (lambda: project.rebegin((500, 500, 500)), None),
        ):
            with self.assertRaises(Refused if name else TooMany) as caught:
                call()
            if name:
                self.assertEqual(caught.exception.name, name)
            self.assertEqual(state_of(project), before)
        self.assertIsNone(project.restart((0, 1)))

    def test_the_first_one_in_ascending_order(self):
        for names in itertools.permutations(("aa", "bb", "cc")):
            project = Project(DOOR)
            for name in names:
                project.promise(name, "reached", 1, (1, 0, 1))
            with self.assertRaises(Refused) as caught:
                project.rebegin((0, 0, 0))
            self.assertEqual(caught.exception.name, "aa")
            project.forget("aa")
            with self.assertRaises(Refused) as caught:
                project.rebegin((0, 0, 0))
            self.assertEqual(caught.exception.name, "bb")

    def test_refused_or_too_many_in_turn(self):
        project = Project(waiting(3))
        project.promise("aa", "reached", 0, (3,))
        project.promise("bb", "short")
        self.assertRaises(TooMany, project.rebegin, (401,))
        self.assertRaises(Refused, project.rebegin, (2,))
        project.promise("ab", "atmost", "a", 400)
        with self.assertRaises(Refused) as caught:
            project.rebegin((401,))
        self.assertEqual(caught.exception.name, "ab")

    def test_promises_that_are_no_more_about_the_program(self):
        for parts in (("reached", 0, (0, 0, 0)), ("barred", 0, (9, 9, 9))):
            project = Project(DOOR)
            project.promise("bag", *parts)
            self.assertRaises(Refused, project.put, IDLE)
        project = Project(DOOR)
        project.promise("spot", "away", ("work", 1, 0))
        self.assertIsNone(project.put(IDLE))
        self.assertRaises(Refused, project.put, Procedure("work", 1, ("leave", 0, (1,))))
        project.promise("few", "atmost", "open", 1)
        self.assertIsNone(project.put(Procedure("idle", 2, ("leave", 1, (0,)))))


class UndoTest(unittest.TestCase):
    def made(self):
        """A project with five deeds, and its states behind each of them."""
        project = Project(DOOR)
        states = [state_of(project)]
        for call in (
            lambda: project.promise("calm", "short"), lambda: project.hush((("work", 0),)), lambda: project.restart((0, 1)),
            lambda: project.rebegin((1, 1, 1)), lambda: project.forget("calm"),
        ):
            call()
            states.append(state_of(project))
        return project, states

    def test_back_and_again(self):
        project, states = self.made()
        self.assertEqual(project.deeds, ("promise", "hush", "restart", "rebegin", "forget"))
        self.assertEqual(project.undo(), 4)
        self.assertEqual(state_of(project), states[4])
        self.assertEqual(project.undo(many=3), 1)
        self.assertEqual(state_of(project), states[1])
        self.assertEqual(project.redo(), 2)
        self.assertEqual(state_of(project), states[2])
        self.assertEqual(project.redo(many=3), 5)
        self.assertEqual(state_of(project), states[5])
        self.assertEqual((project.undo(many=0), project.redo(many=0)), (5, 5))
        for many in range(6):
            self.assertEqual(project.undo(many=many), 5 - many)
            self.assertEqual(state_of(project), states[5 - many])
            self.assertEqual(project.redo(many=many), 5)
            self.assertEqual(state_of(project), states[5])

    def test_too_many_and_no_numbers(self):
        project, states = self.made()
        project.undo(many=2)
        for call, most in ((project.undo, 3), (project.redo, 2)):
            for many in (most + 1, HUGE):
                with self.assertRaises(NothingToUndo) as caught:
                    call(many=many)
                self.assertEqual(caught.exception.many, many)
            for value in odd_values():
                if type(value) is not int or value < 0:
                    with self.assertRaises(InvalidNumber) as caught:
                        call(many=value)
                    self.assertIs(caught.exception.value, value)
        self.assertEqual(state_of(project), states[3])
        self.assertEqual(project.redo(many=2), 5)
        self.assertRaises(NothingToUndo, project.redo)
        self.assertRaises(NothingToUndo, Project(DOOR).undo)
        self.assertEqual((Project(DOOR).undo(many=0), Project(DOOR).redo(many=0)), (0, 0))
        self.assertRaises(TypeError, project.undo, 1)

    def test_a_new_call_ends_what_can_be_done_again(self):
        for call in (lambda one: one.promise("other", "short"), lambda one: one.forget("calm"), lambda one: one.put(OPEN),
                     lambda one: one.hush(()), lambda one: one.restart((0,)), lambda one: one.rebegin((1, 0, 1))):
            project, _ = self.made()
            project.undo(many=3)
            call(project)
            self.assertRaises(NothingToUndo, project.redo)
            self.assertEqual(len(project.deeds), 3)
            self.assertEqual(project.undo(), 2)
            self.assertEqual(project.redo(), 3)

    def test_a_call_that_raises_ends_nothing(self):
        project, states = self.made()
        project.undo(many=2)
        for call in (lambda: project.promise("calm", "short"), lambda: project.forget("none"), lambda: project.put(None),
                     lambda: project.hush((("work", 0),)), lambda: project.restart(()), lambda: project.rebegin((1,)),
                     lambda: project.promise("other", "barred", 0, (0, 0, 0)), lambda: project.undo(many=9)):
            self.assertRaises((InvalidOperation, UnknownName, UnknownSite, Refused, NothingToUndo), call)
            self.assertEqual(state_of(project), states[3])
        self.assertEqual(project.redo(many=2), 5)
        self.assertEqual(state_of(project), states[5])


class TwinTest(unittest.TestCase):
    def test_goes_its_own_way(self):
        project = Project(DOOR)
        project.promise("calm", "short")
        project.hush((("work", 0),))
        project.undo()
        twin = project.twin()
        self.assertEqual(state_of(twin), state_of(project))
        self.assertEqual(twin, project)
        self.assertEqual(twin.redo(), 2)
        self.assertNotEqual(twin, project)
        project.forget("calm")
        self.assertEqual((project.deeds, twin.deeds), (("promise", "forget"), ("promise", "hush")))
        self.assertRaises(NothingToUndo, project.redo)
        self.assertEqual((twin.undo(many=2), twin.redo(many=2)), (0, 2))
        self.assertIsInstance(twin, Project)


class TrialTest(unittest.TestCase):
    def check(self, run):
        """Whether a project is as it was behind a block in which something is run."""
        project = Project(DOOR)
        project.promise("calm", "short")
        project.hush((("work", 0),))
        project.rebegin((1, 1, 1))
        project.undo()
        before = state_of(project)
        try:
            run(project)
        except ZeroDivisionError:
            pass
        self.assertEqual(state_of(project), before)
        self.assertEqual(project.redo(), 3)
        self.assertEqual(project.undo(many=3), 0)
        self.assertEqual(project.redo(many=2), 2)

    def test_blocks(self):
        def change(project):
            with project.trial() as same:
                self.assertIs(same, project)
                same.forget("calm")
                same.rebegin((0, 0, 9))
                self.assertEqual(same.deeds, ("promise", "hush", "forget", "rebegin"))

        def go_back(project):
            with project.trial() as same:
                same.undo(many=2)
                same.put(IDLE)
                self.assertEqual(same.deeds, ("put",))

        def go_on(project):
            with project.trial() as same:
                self.assertEqual(same.redo(), 3)

        def fail(project):
            with project.trial() as same:
                same.undo()
                raise ZeroDivisionError

        def within(project):
            with project.trial() as same:
                same.undo()
                inner = state_of(same)
                with same.trial() as other:
                    other.undo()
                    other.put(IDLE)
                self.assertEqual(state_of(same), inner)
                same.redo()

        def leave(project):
            with project.trial():
                project.undo()
                return 1

        for run in (change, go_back, go_on, fail, within, leave, lambda project: None):
            self.check(run)

    def test_errors_go_on(self):
        project = Project(DOOR)
        with self.assertRaises(ZeroDivisionError):
            with project.trial():
                raise ZeroDivisionError
        with self.assertRaises(Refused):
            with project.trial() as same:
                same.promise("a", "barred", 0, (0, 0, 0))
        self.assertEqual(project.deeds, ())

    def test_the_block_begins_when_it_is_entered(self):
        project = Project(DOOR)
        trial = project.trial()
        project.promise("calm", "short")
        with trial:
            project.forget("calm")
        self.assertEqual(project.deeds, ("promise",))

    def test_during(self):
        def call(project):
            project.forget("calm")
            return [project, project.deeds]

        def fail(project):
            project.undo(many=2)
            raise ZeroDivisionError

        project = Project(DOOR)
        project.promise("calm", "short")
        told = project.during(call)
        self.assertIs(told[0], project)
        self.assertEqual(told[1], ("promise", "forget"))
        self.assertEqual(project.deeds, ("promise",))
        self.assertIsNone(project.during(lambda same: None))
        self.check(lambda one: one.during(fail))
        self.check(lambda one: one.during(lambda same: same.during(call)))


class ObjectTest(unittest.TestCase):
    def test_equal_ones(self):
        project, other = Project(DOOR), Project(Program(2, (0,), (1, 0, 1), OPEN, WORK, SHUT))
        self.assertTrue(project == other and not project != other)
        project.promise("calm", "short")
        self.assertTrue(project != other and not project == other)
        other.promise("calm", "atmost", "open", 1)
        self.assertNotEqual(project, other)
        other.forget("calm")
        other.promise("calm", "short")
        self.assertEqual(project, other)
        other.restart((0, 1))
        self.assertNotEqual(project, other)
        for value in odd_values():
            self.assertFalse(project == value)
            self.assertTrue(project != value)

    def test_items(self):
        project = Project(DOOR)
        project.promise("calm", "short")
        self.assertEqual(project["calm"], ("short",))
        for value in ("short", "open", *odd_values()):
            self.assertIs(value in project, False)
            with self.assertRaises(UnknownName) as caught:
                project[value]
            self.assertIs(caught.exception.name, value)
        self.assertRaises(TypeError, iter, project)
        self.assertRaises(TypeError, list, project)
        self.assertEqual((len(Project(JOBS)), str(Project(JOBS))), (0, "project with 0 promises"))
        project.promise("other", "short")
        self.assertEqual((len(project), str(project)), (2, "project with 2 promises"))

    def test_no_access_to_the_state(self):
        project = Project(DOOR)
        project.promise("calm", "short")
        project.promises.clear()
        project.promises["other"] = ()
        self.assertEqual(project.promises, {"calm": ("short",)})
        bag = (1, 0, 1)
        project.rebegin(bag)
        self.assertEqual(project.program.begin, bag)
        for name in ("program", "promises", "deeds"):
            with self.assertRaises(AttributeError):
                setattr(project, name, None)

    def test_programs_only(self):
        for value in odd_values():
            if not isinstance(value, Program):
                self.assertRaises(InvalidProgram, Project, value)
        self.assertEqual(Project(MANY).program, MANY)


if __name__ == "__main__":
    unittest.main()
