"""[0.9] and stage 3: procedures and their moves."""

import unittest

from postedbag.base.programs import Procedure
from postedbag.errors import BagError, InvalidProgram
from tests.samples import HUGE, JOBS, LEAVE, OPEN, can_be_made, odd_values

GO = ("go", 0, 1, ((0, 1),))
CALL = ("call", 0, 1, "job", (0,))
POST = ("post", 0, 1, "job", (0,))
FOUR = (GO, CALL, POST, LEAVE)

MODE_SETS = ((0,), (4,), (0, 1), (0, 2, 4), (0, 1, 2, 3, 4))
NO_MODE_SETS = (
    (), (5,), (-1,), (1, 0), (0, 0), (0, 1, 1), (2, 0, 1), (0, 5), (-1, 0), (True,), (False,), (0, True), (0, "1"),
    (None,), ((0,),), [0], [0, 1], {0: 0}, 0, "0", (HUGE,), (0, 1, 2, 3, 4, 5),
)
PAIR_SETS = (
    ((0, 0),), ((4, 4),), ((0, 1), (1, 0)), ((0, 0), (0, 1)), ((0, 4), (1, 0), (1, 1), (4, 0)),
    tuple((old, new) for old in range(5) for new in range(5)),
)
NO_PAIR_SETS = (
    (), ((5, 0),), ((0, 5),), ((-1, 0),), ((0, -1),), ((1, 0), (0, 1)), ((0, 1), (0, 0)), ((0, 0), (0, 0)),
    ((0, 0), (0, 1), (0, 1)), ((0,),), ((0, 0, 0),), ((),), (0, 0), (0,), ((True, 0),), ((0, False),),
    ((0, True), (1, 0)), ([0, 0],), ((0, 0), [0, 1]), [(0, 0)], {(0, 0): 0}, 0, "00", ("00",), ((0, "0"),),
    ((None, 0),), ((0, (0,)),), ((0, HUGE),), ((0, 1), None),
)
NAMES = ("a", "z", "job", "src", "abcdefgh")
NO_NAMES = ("", "abcdefghi", "A", "Job", "job1", "1", " ", "job ", " job", "a b", "a\n", None, 0, True, (), ("job",), ["job"])


def is_right(*arguments):
    """Whether a procedure can be made, directly and by `of` alike."""
    called, points, *moves = arguments
    return can_be_made(lambda: Procedure(*arguments), lambda: Procedure.of(called, points, tuple(moves)))


class RightMovesTest(unittest.TestCase):
    def test_each_kind(self):
        for move in FOUR:
            self.assertEqual(Procedure("src", 2, move).moves, (move,))
        self.assertEqual(Procedure("src", 2, *FOUR).moves, FOUR)

    def test_no_moves(self):
        self.assertEqual(Procedure("src", 1).moves, ())
        self.assertEqual(Procedure.of("src", 1, ()).moves, ())

    def test_equal_moves_stand_several_times_and_in_their_order(self):
        self.assertEqual(Procedure("src", 2, POST, GO, POST, GO).moves, (POST, GO, POST, GO))

    def test_mode_sets(self):
        for modes in MODE_SETS:
            for move in (CALL[:4] + (modes,), POST[:4] + (modes,), ("leave", 0, modes)):
                self.assertTrue(is_right("src", 2, move), move)

    def test_pairs(self):
        for pairs in PAIR_SETS:
            self.assertTrue(is_right("src", 2, GO[:3] + (pairs,)), pairs)

    def test_names_of_other_procedures_and_its_own(self):
        for name in NAMES:
            for kind in ("call", "post"):
                self.assertTrue(is_right("src", 2, (kind, 0, 1, name, (0,))), name)

    def test_points_up_to_the_last_one(self):
        for points in range(1, 7):
            last = points - 1
            for here, there in ((0, last), (last, 0), (last, last)):
                for move in (("go", here, there) + GO[3:], ("call", here, there) + CALL[3:],
                             ("post", here, there) + POST[3:], ("leave", here, (0,))):
                    self.assertTrue(is_right("src", points, move), (points, move))


class WrongMovesTest(unittest.TestCase):
    def refuse(self, move):
        for moves in ((move,), (*FOUR, move), (move, *FOUR)):
            self.assertFalse(is_right("src", 2, *moves), moves)

    def test_mode_sets(self):
        for modes in NO_MODE_SETS:
            for move in (CALL[:4] + (modes,), POST[:4] + (modes,), ("leave", 0, modes)):
                self.refuse(move)

    def test_pairs(self):
        for pairs in NO_PAIR_SETS:
            self.refuse(GO[:3] + (pairs,))

    def test_names(self):
        for name in NO_NAMES:
            for kind in ("call", "post"):
                self.refuse((kind, 0, 1, name, (0,)))

    def test_points(self):
        for point in (2, -1, 6, HUGE, True, False, None, "0", (0,), [0]):
            for move in FOUR:
                self.refuse(move[:1] + (point,) + move[2:])
                if move is not LEAVE:
                    self.refuse(move[:2] + (point,) + move[3:])

    def test_kinds(self):
        for move in FOUR:
            for kind in ("", "GO", "Leave", "go ", "take", "stop", None, 0, True, (), ("go",), ["go"], JOBS, OPEN):
                self.refuse((kind,) + move[1:])
        for move in FOUR:
            for other in FOUR:
                if move[0] != other[0] and {move[0], other[0]} != {"call", "post"}:
                    self.refuse(move[:1] + other[1:])

    def test_lengths(self):
        for move in FOUR:
            for length in range(len(move)):
                self.refuse(move[:length])
            for more in (move[-1], 0, None, (), (0,), ((0, 0),)):
                self.refuse(move + (more,))

    def test_lists_and_values_of_other_kinds(self):
        for move in FOUR:
            self.refuse(list(move))
            self.refuse((move,))
            self.refuse(dict.fromkeys(move))
        for value in odd_values():
            self.refuse(value)
        for value in odd_values():
            for move in FOUR:
                for at in range(len(move)):
                    # Point 0 and 1 are right ones; each other odd value is wrong everywhere.
                    if not (value in (0, 1) and type(value) is int and at in (1, 2)):
                        self.refuse(move[:at] + (value,) + move[at + 1:])

    def test_many(self):
        self.assertTrue(is_right("src", 1, *[LEAVE] * 12))
        self.assertFalse(is_right("src", 1, *[LEAVE] * 13))
        self.assertEqual(len(Procedure("src", 1, *[LEAVE] * 12)), 12)


class NamesAndPointsTest(unittest.TestCase):
    def test_names(self):
        for name in NAMES:
            self.assertEqual(Procedure(name, 1, LEAVE).called, name)
        for name in (*NO_NAMES, *odd_values()):
            self.assertFalse(is_right(name, 1, LEAVE), name)

    def test_points(self):
        for points in range(-2, 9):
            self.assertEqual(is_right("src", points, LEAVE), 1 <= points <= 6, points)
            self.assertEqual(is_right("src", points), 1 <= points <= 6, points)
        for points in odd_values():
            if points != 1 or points is True:
                self.assertFalse(is_right("src", points), points)

    def test_all_wrong_at_once(self):
        self.assertFalse(is_right("Src", 0, None))
        self.assertFalse(is_right(None, True, ()))
        self.assertFalse(is_right(1, "src", LEAVE))

    def test_of_takes_a_tuple_only(self):
        for moves in ([], [LEAVE], {}, {LEAVE: 0}, None, "", 0, False, OPEN, LEAVE):
            with self.assertRaises(InvalidProgram):
                Procedure.of("src", 1, moves)
        with self.assertRaises(InvalidProgram):
            Procedure("src", 1, (LEAVE,))

    def test_the_error(self):
        with self.assertRaises(BagError) as caught:
            Procedure("src", 1, ())
        self.assertIs(type(caught.exception), InvalidProgram)


class OfAProcedureTest(unittest.TestCase):
    def test_properties(self):
        self.assertEqual((OPEN.called, OPEN.points), ("open", 3))
        self.assertEqual(OPEN.moves[1], ("post", 1, 2, "work", (1,)))
        self.assertIs(type(OPEN.moves), tuple)
        self.assertIs(type(Procedure.of("a", 1, (LEAVE,))), Procedure)

    def test_it_never_changes(self):
        for name in ("called", "points", "moves"):
            with self.assertRaises(AttributeError):
                setattr(OPEN, name, getattr(OPEN, name))

    def test_what_is_passed_is_not_changed(self):
        moves = [list(LEAVE)]
        with self.assertRaises(InvalidProgram):
            Procedure("src", 1, *moves)
        with self.assertRaises(InvalidProgram):
            Procedure.of("src", 1, moves)
        self.assertEqual(moves, [["leave", 0, (0,)]])

    def test_length(self):
        self.assertEqual([len(Procedure("src", 2, *FOUR[:many])) for many in range(5)], [0, 1, 2, 3, 4])

    def test_text(self):
        self.assertEqual(str(Procedure("p", 2, *FOUR)), "procedure p, 2 points, 4 moves")
        self.assertEqual(str(Procedure("job", 1)), "procedure job, 1 points, 0 moves")
        self.assertEqual(str(Procedure("job", 6, LEAVE)), "procedure job, 6 points, 1 moves")

    def test_equality(self):
        one = Procedure("src", 2, GO, LEAVE)
        self.assertTrue(one == one)
        self.assertTrue(one == Procedure.of("src", 2, (GO, LEAVE)))
        self.assertFalse(one != Procedure.of("src", 2, (GO, LEAVE)))
        others = (
            Procedure("job", 2, GO, LEAVE), Procedure("src", 3, GO, LEAVE), Procedure("src", 2, LEAVE, GO),
            Procedure("src", 2, GO), Procedure("src", 2, GO, LEAVE, LEAVE), Procedure("src", 2),
            ("src", 2, (GO, LEAVE)), "src", *odd_values(),
        )
        for other in others:
            self.assertIs(one == other, False)
            self.assertIs(one != other, True)
            self.assertIs(other == one, False)
            self.assertIs(other != one, True)

    def test_it_cannot_be_iterated_over(self):
        for call in (iter, list, tuple, sorted, set):
            with self.assertRaises(TypeError):
                call(OPEN)


if __name__ == "__main__":
    unittest.main()
