"""[0.19], [0.21], [0.22] and stage 10: bars and tops."""

import itertools
import random
import unittest

from postedbag.base.bags import ANY
from postedbag.base.programs import Procedure, Program
from postedbag.errors import InvalidBag, InvalidMode, InvalidOperation, InvalidProgram, TooMany
from postedbag.know.gains import gains
from postedbag.plan.tops import Tops, is_bar
from postedbag.run.runs import Run, options
from tests.randoms import NAMES, full, loose, onward, stairs
from tests.samples import DOOR, HUGE, JOBS, LEAVE, TREE, odd_values
from tests.test_gains import MANY
from tests.words import is_below, takes_needed, takes_of

TOPS_OF_DOOR = ((0, (0, 1, 0)), (0, (1, 0, 1)), (1, (0, 1, 1)), (1, (1, 0, 1)))


def plain(name, *moves):
    """A procedure with two points that does one of some moves and leaves."""
    return Procedure(name, 2, *moves, ("leave", 1, (0,)))


def post(name):
    """A post of a plain procedure."""
    return ("post", 0, 1, name, (0,))


def quiet(*names):
    """Procedures of which tasks only leave."""
    return [Procedure(name, 1, LEAVE) for name in names]


# Each task p becomes a task q.
TURNS = Program(1, (0,), (1, 0), plain("p", post("q")), *quiet("q"))


def gains_of_tasks(program):
    """The gains of the ways of all tasks."""
    modes = range(program.modes)
    return {(name, 0, mode, end): gains(program, (name, 0, mode, end))
            for name in program.names for mode in modes for end in modes}


def is_bar_by_words(program, found, rows):
    """[0.21] for an ascending tuple of standings."""
    def is_within(mode, bag):
        return any(other == mode and is_below(bag, wide) for other, wide in rows)
    if not all(is_within(start, program.begin) for start in program.starts):
        return False
    for mode, bag in rows:
        for at, ahead, end, gain in takes_of(program, found):
            if ahead == mode and bag[at] != 0:
                rest = [many - (index == at) if many != ANY else ANY for index, many in enumerate(bag)]
                more = tuple(ANY if ANY in pair else sum(pair) for pair in zip(rest, gain))
                if not is_within(end, more):
                    return False
    return True


def standings_of_runs(program, most):
    """The modes and bags between tasks of runs with at most so many steps."""
    found = set()
    level = {(start, program.begin, (), None) for start in program.starts}
    for _ in range(most + 1):
        found |= {situation[:2] for situation in level if situation[3] is None}
        level = {other for situation in level for other in options(program, situation)}
        if len(level) > 3000:
            break
    return found


class TopsTest(unittest.TestCase):
    def test_the_documents_programs(self):
        tops = Tops(DOOR)
        self.assertEqual((tops.program, tops.rows, tops.modes, len(tops)), (DOOR, TOPS_OF_DOOR, (0, 1), 4))
        self.assertEqual(str(tops), "4 tops in 2 modes")
        self.assertEqual(Tops(JOBS).rows, ((0, (0, ANY)), (0, (1, 0))))
        self.assertEqual(str(Tops(JOBS)), "2 tops in 1 modes")

    def test_standings_of_runs(self):
        for seed in range(60):
            program = onward(seed, procedures=3) if seed % 2 else loose(seed)
            tops = Tops(program)
            for mode, bag in standings_of_runs(program, 9):
                self.assertIs(tops.covers(mode, bag), True, (seed, mode, bag))
                self.assertIn(mode, tops.modes)

    def test_as_by_the_words(self):
        """Each top is covered with any number of what is ANY, and nothing more is."""
        for seed in range(90):
            program = onward(seed, modes=3) if seed % 2 else loose(seed, modes=3)
            tops = Tops(program)
            takes = takes_of(program, gains_of_tasks(program))
            self.assertEqual(tops.rows, tuple(sorted(set(tops.rows))))
            self.assertEqual(tops.modes, tuple(sorted({mode for mode, _ in tops.rows})))
            for mode, wide in tops.rows[:12]:
                if max(wide) > 12:
                    continue
                bag = tuple(3 if many == ANY else many for many in wide)
                self.assertIsNotNone(takes_needed(program, takes, mode, bag, 99), (seed, mode, wide))
                for at, many in enumerate(wide):
                    if many != ANY:
                        more = tuple(entry + (index == at) for index, entry in enumerate(bag))
                        needed = takes_needed(program, takes, mode, more, 99)
                        self.assertIs(tops.covers(mode, more), needed is not None, (seed, mode, more))

    def test_modes_that_are_not_come_to(self):
        for seed in range(60):
            program = loose(seed, modes=4)
            takes = takes_of(program, gains_of_tasks(program))
            for mode in range(program.modes):
                needed = takes_needed(program, takes, mode, (0,) * len(program), 99)
                self.assertIs(mode in Tops(program).modes, needed is not None)

    def test_rows_of_tasks_that_go_round(self):
        source = plain("p", ("call", 0, 1, "r", (0,)))
        both = Procedure("r", 3, ("post", 0, 1, "p", (0,)), ("post", 1, 2, "q", (0,)), ("leave", 2, (0,)))
        program = Program(1, (0,), (1, 0, 0), source, Procedure("q", 1, LEAVE), both)
        self.assertEqual(Tops(program).rows, ((0, (1, ANY, 0)),))
        self.assertEqual(Tops(program.with_begin((0, 5, 0))).rows, ((0, (0, 5, 0)),))
        self.assertEqual(Tops(program.with_begin((0, 0, 2))).rows, ((0, (0, 0, 2)), (0, (1, ANY, 1)), (0, (2, ANY, 0))))

    def test_rounds_through_several_tasks_and_modes(self):
        there = Procedure("p", 2, ("go", 0, 1, ((0, 1),)), ("post", 1, 1, "r", (1,)), ("leave", 1, (1,)))
        back = Procedure("q", 3, ("go", 0, 1, ((1, 0),)), ("post", 1, 2, "p", (0,)), ("post", 2, 2, "q", (0,)),
                         ("leave", 2, (0,)))
        quiet_one = Procedure("r", 1, ("leave", 0, (0, 1)))
        program = Program(2, (0,), (1, 1, 0), there, back, quiet_one)
        self.assertEqual(Tops(program).rows, ((0, (1, ANY, ANY)), (1, (0, ANY, ANY))))
        self.assertEqual(Tops(program.with_begin((1, 0, 0))).rows, ((0, (1, 0, 0)), (1, (0, 0, ANY))))

    def test_a_mode_that_is_left_for_good(self):
        # In the mode 0 tasks q come and come; in the mode 1 they are turned into tasks r, one by one.
        source = Procedure("p", 2, ("post", 0, 0, "q", (0,)), ("go", 0, 1, ((0, 1),)), ("leave", 0, (0,)), ("leave", 1, (1,)))
        turn = Procedure("q", 2, ("post", 0, 1, "r", (1,)), ("leave", 1, (1,)))
        program = Program(2, (0,), (1, 0, 2), source, turn, Procedure("r", 1))
        self.assertEqual(Tops(program).rows, ((0, (0, ANY, 2)), (0, (1, 0, 2)), (1, (0, ANY, ANY))))

    def test_tasks_that_can_be_begun_and_not_ended(self):
        stuck = Procedure("p", 2, ("post", 0, 1, "q", (0,)))
        program = Program(1, (0,), (1, 0), stuck, Procedure("q", 1, LEAVE))
        self.assertEqual(Tops(program).rows, ((0, (1, 0)),))
        held = Procedure("p", 2, ("go", 0, 1, ((0, 1),)), ("leave", 1, (0,)))
        self.assertEqual(Tops(Program(2, (0,), (1, 0), held, Procedure("q", 1, LEAVE))).rows, ((0, (1, 0)),))

    def test_several_starts(self):
        program = DOOR.with_starts((0, 1))
        self.assertEqual(Tops(program).modes, (0, 1))
        for mode in (0, 1):
            self.assertIs(Tops(program).covers(mode, (1, 0, 1)), True)
        for seed in range(40):
            program = loose(seed, modes=3)
            every = [Tops(program.with_starts((start,))).rows for start in program.starts]
            for mode, wide in itertools.chain(*every):
                self.assertTrue(any(mode == other and is_below(wide, more) for other, more in Tops(program).rows))
            for mode, wide in Tops(program).rows:
                self.assertTrue(any((mode, wide) in rows for rows in every))

    def test_great_begins(self):
        for many in (1, 7, HUGE):
            self.assertEqual(Tops(JOBS.with_begin((many, 0))).rows, ((0, (many - 1, ANY)), (0, (many, 0))))
            self.assertEqual(Tops(DOOR.with_begin((0, 0, many))).rows, ((0, (0, 0, many)),))
            self.assertEqual(Tops(DOOR.with_begin((0, many, 0))).rows, ((0, (0, many, 0)),))
        shut = DOOR.with_begin((0, 0, HUGE)).with_starts((1,))
        self.assertEqual(Tops(shut).rows, ((0, (0, 0, HUGE - 1)), (1, (0, 0, HUGE))))

    def test_a_great_begin_that_soon_does_not_matter(self):
        # The tasks p could be turned one by one for ever, but one task r makes any number of all.
        source = Procedure("r", 1, *[("post", 0, 0, name, (0,)) for name in "pqr"], LEAVE)
        program = Program(1, (0,), (HUGE, 0, 1), plain("p", post("q")), Procedure("q", 1, LEAVE), source)
        self.assertEqual(Tops(program).rows, ((0, (ANY, ANY, ANY)),))

    def test_rounds_that_are_hidden_by_many_other_rows(self):
        for seed, procedures, modes, points, moves, begin, many in (
            (6002741, 3, 2, 3, 12, (17, 0, 399), 2),
            (6002547, 4, 5, 4, 8, (60, 3, 0, 60), 5),
            (2951, 4, 5, 4, 8, (30, 60, 60, 17), 301),
        ):
            program = onward(seed, procedures, modes, points, moves).with_begin(begin)
            rows = Tops(program).rows
            self.assertEqual(len(rows), many)
            self.assertIs(is_bar(program, rows), True)


class OfTopsTest(unittest.TestCase):
    def test_covers(self):
        tops = Tops(DOOR)
        for mode in (0, 1):
            for bag in itertools.product(range(3), repeat=3):
                covered = any(other == mode and is_below(bag, wide) for other, wide in TOPS_OF_DOOR)
                self.assertIs(tops.covers(mode, bag), covered)
        self.assertIs(Tops(JOBS).covers(0, (0, HUGE)), True)
        self.assertIs(Tops(JOBS).covers(0, (1, 1)), False)

    def test_errors_of_covers(self):
        tops = Tops(DOOR)
        for value in odd_values():
            if type(value) is not int or value not in (0, 1):
                with self.assertRaises(InvalidMode) as caught:
                    tops.covers(value, None)
                self.assertIs(type(caught.exception), InvalidMode)
            with self.assertRaises(InvalidBag) as caught:
                tops.covers(0, value)
            self.assertIs(type(caught.exception), InvalidBag)
        for bag in ((0, 0), (0, 0, 0, 0), (0, 0, ANY), (0, 0, True), [0, 0, 0]):
            self.assertRaises(InvalidBag, tops.covers, 0, bag)

    def test_above(self):
        tops = Tops(JOBS)
        self.assertIs(tops.above(tops.rows), True)
        self.assertIs(tops.above(tops.rows[::-1] * 2), True)
        self.assertIs(tops.above(((0, (1, ANY)),)), True)
        self.assertIs(tops.above(((0, (ANY, ANY)), (0, (0, 0)))), True)
        self.assertIs(tops.above(((0, (0, ANY)),)), False)
        self.assertIs(tops.above(((0, (1, HUGE)), (0, (ANY, 5)))), False)
        self.assertIs(tops.above(()), False)
        self.assertIs(Tops(DOOR).above(((0, (1, 1, 1)), (1, (1, 1, 1)))), True)
        self.assertIs(Tops(DOOR).above(((0, (ANY,) * 3),)), False)

    def test_errors_of_above(self):
        for value in [*odd_values(), [(0, (1, 0))], ((0, (1,)),), ((1, (1, 0)),), ((0, (1, -2)),), ((0, (True, 0)),),
                      ((0, [1, 0]),), ((True, (1, 0)),), ((0, (1, 0), 0),), ([0, (1, 0)],), (0, (1, 0)),
                      ((0, (1, 0)), None), (((0, (1, 0)),),)]:
            with self.assertRaises(InvalidOperation) as caught:
                Tops(JOBS).above(value)
            self.assertIs(type(caught.exception), InvalidOperation)

    def test_in_and_length(self):
        tops = Tops(DOOR)
        self.assertEqual(len(tops), 4)
        for row in TOPS_OF_DOOR:
            self.assertIs(row in tops, True)
        for value in [*odd_values(), (0, (0, 0, 0)), (1, (0, 1, 0)), (0, (0, 1, 0), 0), [0, (0, 1, 0)], (0, [0, 1, 0]),
                      (False, (0, 1, 0)), (0, (0, True, 0)), (True, (0, 1, 1)), TOPS_OF_DOOR, tops]:
            self.assertIs(value in tops, False, value)
            self.assertIs(value not in tops, True)

    def test_equality(self):
        tops = Tops(DOOR)
        self.assertIs(tops == Tops(DOOR), True)
        self.assertIs(tops != Tops(DOOR), False)
        # The tops are the same, the programs are not.
        other = DOOR.with_procedure(Procedure("shut", 2, *DOOR["shut"].moves, ("go", 0, 1, ((1, 0),))))
        self.assertEqual(Tops(other).rows, tops.rows)
        for value in (Tops(other), Tops(JOBS), TOPS_OF_DOOR, DOOR, *odd_values()):
            self.assertIs(tops == value, False)
            self.assertIs(tops != value, True)
            self.assertIs(value == tops, False)

    def test_it_never_changes(self):
        tops = Tops(DOOR)
        for name in ("program", "rows", "modes"):
            with self.assertRaises(AttributeError):
                setattr(tops, name, getattr(tops, name))
        for call in (iter, list, tuple, lambda value: [*value], sorted):
            with self.assertRaises(TypeError):
                call(tops)

    def test_no_program(self):
        for value in odd_values():
            if not isinstance(value, Program):
                for call in (Tops, lambda value: is_bar(value, None)):
                    with self.assertRaises(InvalidProgram) as caught:
                        call(value)
                    self.assertIs(type(caught.exception), InvalidProgram)


class BarTest(unittest.TestCase):
    def test_tops_are_a_bar_within_every_other_one(self):
        for seed in range(60):
            program = onward(seed, procedures=3) if seed % 2 else loose(seed)
            tops = Tops(program)
            self.assertIs(is_bar(program, tops.rows), True)
            found = gains_of_tasks(program)
            # Without a top, or with less of one, it is none any more.
            for at, (mode, wide) in enumerate(tops.rows[:6]):
                others = tops.rows[:at] + tops.rows[at + 1:]
                self.assertIs(is_bar(program, others), False)
                for index, many in enumerate(wide):
                    if many != 0:
                        less = wide[:index] + (HUGE if many == ANY else many - 1,) + wide[index + 1:]
                        self.assertIs(is_bar(program, tuple(sorted({*others, (mode, less)}))), False)
                    if many != ANY:
                        more = wide[:index] + (ANY,) + wide[index + 1:]
                        rows = tuple(sorted({*others, (mode, more)}))
                        right = is_bar_by_words(program, found, rows)
                        self.assertIs(is_bar(program, rows), right)
                        self.assertIs(right and not tops.above(rows), False)

    def test_random_rows(self):
        right = 0
        for seed in range(150):
            program = loose(seed, modes=3)
            source = random.Random(seed)
            found = gains_of_tasks(program)
            for _ in range(6):
                rows = {(mode, tuple(source.choice((0, 1, 2, ANY, ANY)) for _ in program.names))
                        for mode in range(program.modes) for _ in range(source.randrange(3))}
                bar = is_bar_by_words(program, found, sorted(rows))
                self.assertIs(is_bar(program, tuple(sorted(rows))), bar)
                if bar:
                    self.assertIs(Tops(program).above(tuple(sorted(rows))), True)
                    right += 1
        self.assertGreater(right, 50)

    def test_order(self):
        for order in itertools.permutations(TOPS_OF_DOOR):
            self.assertIs(is_bar(DOOR, order), order == TOPS_OF_DOOR)
        self.assertIs(is_bar(DOOR, TOPS_OF_DOOR + TOPS_OF_DOOR[-1:]), False)
        self.assertIs(is_bar(DOOR, list(TOPS_OF_DOOR)), False)
        # Standings within others may stand there.
        self.assertIs(is_bar(DOOR, ((0, (0, 0, 0)), *TOPS_OF_DOOR)), True)

    def test_starts(self):
        self.assertIs(is_bar(DOOR, ()), False)
        quiet_door = DOOR.with_begin((0, 0, 0))
        self.assertIs(is_bar(quiet_door, ((0, (0, 0, 0)),)), True)
        self.assertIs(is_bar(quiet_door.with_starts((0, 1)), ((0, (0, 0, 0)),)), False)
        self.assertIs(is_bar(quiet_door.with_starts((0, 1)), ((0, (0, 0, 0)), (1, (0, 0, 0)))), True)
        self.assertIs(is_bar(DOOR.with_begin((2, 0, 1)), TOPS_OF_DOOR), False)

    def test_entries_of_which_a_task_is_taken(self):
        self.assertIs(is_bar(TURNS, ((0, (0, 1)), (0, (1, 0)))), True)
        self.assertIs(is_bar(TURNS, ((0, (1, 0)),)), False)
        self.assertIs(is_bar(TURNS, ((0, (1, 1)),)), False)
        self.assertIs(is_bar(TURNS, ((0, (0, 2)), (0, (1, 1)))), True)
        self.assertIs(is_bar(TURNS, ((0, (ANY, 0)),)), False)
        self.assertIs(is_bar(TURNS, ((0, (ANY, 5)),)), False)
        self.assertIs(is_bar(TURNS, ((0, (ANY, ANY)),)), True)
        self.assertIs(is_bar(TURNS, ((0, (1, ANY)),)), True)
        self.assertIs(is_bar(TURNS, ((0, (0, ANY)),)), False)
        self.assertIs(is_bar(TURNS, ((0, (1, HUGE)),)), False)

    def test_other_values(self):
        for value in [*odd_values(), ((0, (1, 0)), None), ((0, (1,)),), ((1, (1, 0)),), ((0, (1, -2)),), ((0, [1, 0]),),
                      ((False, (1, 0)),), ((0, (True, 0)),), ([0, (1, 0)],), (0, (1, 0)), {(0, (1, ANY))}]:
            self.assertIs(is_bar(JOBS, value), False, value)
        self.assertIs(is_bar(JOBS, ((0, (1, ANY)),)), True)


class TooManyTest(unittest.TestCase):
    def refuse(self, call, *arguments):
        with self.assertRaises(TooMany) as caught:
            call(*arguments)
        self.assertEqual(caught.exception.limit, 400)

    def test_400_tops_and_more(self):
        for many in (1, 5, 399):
            rows = tuple((0, (left, many - left)) for left in range(many + 1))
            program = TURNS.with_begin((many, 0))
            self.assertEqual(Tops(program).rows, rows)
            self.assertIs(is_bar(program, rows), True)
        for many in (400, 401, 1000, 10 ** 6, HUGE):
            self.refuse(Tops, TURNS.with_begin((many, 0)))

    def test_the_tops_of_all_modes_count(self):
        turn = [Procedure("p", 3, ("post", 0, 1, "q", (0, 1)), ("go", 0, 2, ((0, 1),)), ("leave", 1, (0, 1)), ("leave", 2, (1,))),
                Procedure("q", 1)]
        program = Program(2, (0,), (199, 0), *turn)
        self.assertEqual(len(Tops(program)), 399)
        self.assertEqual(len(Tops(program.with_starts((0, 1)))), 400)
        self.refuse(Tops, program.with_begin((200, 0)))
        self.refuse(Tops, program.with_begin((HUGE, 0)))

    def test_great_begins(self):
        self.refuse(Tops, DOOR.with_begin((HUGE, HUGE, HUGE)))
        self.refuse(Tops, DOOR.with_begin((2, HUGE, 0)).with_starts((1,)))
        for names in ("pq", "pqr", "pqrst"):
            made = [plain(name, *[post(other) for other in names if other > name]) for name in names[:-1]]
            made += quiet(names[-1])
            for begin in ((HUGE,) + (0,) * (len(names) - 1), (HUGE,) * len(names)):
                self.refuse(Tops, Program.of(1, (0,), begin, tuple(made)))

    def test_any_number_of_other_tasks_does_not_change_that(self):
        # A task r makes any number of tasks s, but tasks p still become tasks q one by one.
        source = Procedure("r", 1, ("post", 0, 0, "s", (0,)), LEAVE)
        for many, tops in ((5, 12), (199, 400)):
            program = Program(1, (0,), (many, 0, 1, 0), plain("p", post("q")), *quiet("q"), source, *quiet("s"))
            self.assertEqual(len(Tops(program)), tops)
        for many in (200, HUGE):
            self.refuse(Tops, program.with_begin((many, 0, 1, 0)))

    def test_gains_of_tasks_that_can_be_taken(self):
        # A task t has 441 gains.
        self.assertEqual(Tops(MANY).rows, ((0, (0, 0, 0, 0, 0)),))
        self.refuse(Tops, MANY.with_begin((0, 0, 0, 0, 1)))

    def test_only_in_modes_in_which_they_can_be_taken(self):
        # With two modes, the last procedure calls the one with too many gains in the mode 1 only.
        other = [Procedure(procedure.called, procedure.points, *[in_modes(move, (0, 1)) for move in procedure.moves])
                 for procedure in MANY.procedures[:4]]
        last = Procedure("t", 3, ("call", 0, 1, "s", (1,)), ("call", 1, 2, "p", (1,)), ("leave", 2, (1,)), ("leave", 0, (0,)))
        program = Program.of(2, (0,), (0, 0, 0, 0, 1), (*other, last))
        self.assertEqual(Tops(program).rows, ((0, (0, 0, 0, 0, 1)),))
        self.refuse(Tops, program.with_starts((0, 1)))
        self.refuse(Tops, program.with_starts((1,)))
        self.assertEqual(len(Tops(program.with_starts((0, 1)).with_begin((0, 0, 0, 0, 0)))), 2)

    def test_bars(self):
        program = MANY.with_begin((0, 0, 0, 0, 1))
        every = ((0, (ANY,) * 5),)
        self.refuse(is_bar, program, every)
        self.assertIs(is_bar(MANY, ((0, (0,) * 5),)), True)
        # It is no bar for another reason.
        self.assertIs(is_bar(program, ((0, (0,) * 5),)), False)
        self.assertIs(is_bar(program, ((0, (1, 0, 0, 0, 1)),)), False)
        self.assertIs(is_bar(program, every * 2), False)
        self.assertIs(is_bar(program, list(every)), False)
        self.refuse(is_bar, program, ((0, (0, 0, 0, 0, 1)),))
        # No task t is taken.
        self.assertIs(is_bar(MANY, ((0, (ANY, ANY, ANY, ANY, 0)),)), True)

    def test_large_programs(self):
        for seed in range(8):
            for program in (full(seed), stairs(seed), full(seed).with_begin((HUGE, 0, 1, HUGE, 2))):
                try:
                    tops = Tops(program)
                except TooMany as error:
                    self.assertEqual(error.limit, 400)
                else:
                    self.assertIs(is_bar(program, tops.rows), True)
                    run = Run(program, program.starts[0])
                    self.assertIs(tops.covers(run.mode, run.bag), True)


def in_modes(move, modes):
    """A call, a post or a leave in other modes."""
    return move[:-1] + (modes,)


if __name__ == "__main__":
    unittest.main()
