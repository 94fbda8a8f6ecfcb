"""[4.1] and stage 4: texts of programs."""

import unittest

from postedbag.base.programs import Procedure, Program
from postedbag.errors import InvalidProgram, ParseError
from postedbag.text.texts import read_program, write_program
from tests.randoms import full, loose, onward
from tests.samples import DOOR, HUGE, JOBS, LEAVE, OPEN, TREE, odd_values

WORDS = ("go", "in", "by", "modes", "starts", "begin", "call", "post")
DOOR_TEXT = """modes 2 starts 0 begin 1 0 1
procedure open 3
  go 0 1 by 01
  post 1 2 work in 1
  leave 2 in 1
procedure work 2
  post 0 1 open in 1
  leave 1 in 1
procedure shut 2
  go 0 1 by 10
  leave 1 in 0"""
FIRST = "modes 2 starts 0 1 begin 1 0 12"


def wrong_line(text):
    """The line that read_program tells to be wrong, or None if it raises another error or none."""
    try:
        read_program(text)
    except ParseError as error:
        assert type(error) is ParseError
        return error.line
    except InvalidProgram as error:
        assert type(error) is InvalidProgram
        return "program"
    return None


class WritingTest(unittest.TestCase):
    def test_the_text_of_door(self):
        self.assertEqual(write_program(DOOR), DOOR_TEXT)

    def test_each_form(self):
        procedure = Procedure(
            "p", 2, ("go", 0, 1, ((0, 0), (0, 1), (1, 0))), ("call", 0, 1, "p", (0, 1)), ("post", 0, 1, "p", (1,)),
            ("leave", 1, (0, 1)),
        )
        program = Program(2, (0, 1), (1, 0, 12), procedure, Procedure("q", 6), Procedure("r", 1))
        self.assertEqual(write_program(program).split("\n"), [
            "modes 2 starts 0 1 begin 1 0 12", "procedure p 2", "  go 0 1 by 00 01 10", "  call 0 1 p in 0 1",
            "  post 0 1 p in 1", "  leave 1 in 0 1", "procedure q 6", "procedure r 1",
        ])

    def test_no_program(self):
        for value in [*odd_values(), OPEN, DOOR_TEXT, (JOBS,)]:
            if not isinstance(value, Program):
                with self.assertRaises(InvalidProgram) as caught:
                    write_program(value)
                self.assertIs(type(caught.exception), InvalidProgram)


class ThereAndBackTest(unittest.TestCase):
    def check(self, program):
        text = write_program(program)
        self.assertEqual(read_program(text), program)
        self.assertEqual(write_program(read_program(text)), text)

    def test_the_documents_programs(self):
        for program in (JOBS, TREE, DOOR):
            self.check(program)

    def test_programs_at_random(self):
        for seed in range(60):
            self.check(loose(seed, procedures=5, modes=5, points=6, moves=12))
            self.check(onward(seed, procedures=5, modes=5, points=6, moves=11))
            self.check(full(seed))

    def test_names_that_are_words_of_the_text(self):
        for names in (WORDS[:4], WORDS[4:], ("leave", "go", "in", "by", "modes")):
            made = []
            for at, name in enumerate(names):
                other = names[at - 1]
                made.append(Procedure(
                    name, 2, ("call", 0, 1, other, (0, 1)), ("post", 0, 1, name, (1,)), ("go", 0, 1, ((0, 1), (1, 0))),
                    ("post", 1, 1, other, (0,)), ("leave", 1, (0, 1)),
                ))
            self.check(Program.of(2, (0, 1), tuple(range(len(names))), tuple(made)))

    def test_begins_of_forty_digits(self):
        for begin in ((HUGE, HUGE), (0, HUGE), (10 ** 39, 10), (0, 0)):
            self.check(JOBS.with_begin(begin))

    def test_all_starts_and_all_pairs(self):
        pairs = tuple((old, new) for old in range(5) for new in range(5))
        self.check(Program(5, (0, 1, 2, 3, 4), (1,), Procedure("p", 1, ("go", 0, 0, pairs), LEAVE)))
        self.check(Program(5, (4,), (1,), Procedure("abcdefgh", 6, *[("go", 5, 0, ((4, 4),))] * 12)))

    def test_equal_moves(self):
        self.check(Program(1, (0,), (1,), Procedure("p", 1, LEAVE, LEAVE, LEAVE)))


class LinesTest(unittest.TestCase):
    def refuse(self, line, *forms):
        """Each form is wrong in the place of a line of the text of door."""
        for form in forms:
            lines = DOOR_TEXT.split("\n")
            lines[line] = form
            self.assertEqual(wrong_line("\n".join(lines)), line, repr(form))

    def test_first_lines(self):
        self.refuse(
            0, "", " ", "modes", "modes 2", "modes 2 starts", "modes 2 starts 0", "modes 2 starts 0 begin",
            "modes 2 starts begin 1 0 1", "modes starts 0 begin 1 0 1", " modes 2 starts 0 begin 1 0 1",
            "modes 2 starts 0 begin 1 0 1 ", "modes  2 starts 0 begin 1 0 1", "modes 2  starts 0 begin 1 0 1",
            "modes 2 starts  0 begin 1 0 1", "modes 2 starts 0  begin 1 0 1", "modes 2 starts 0 begin  1 0 1",
            "modes 2 starts 0 begin 1  0 1", "modes 12 starts 0 begin 1 0 1", "modes 02 starts 0 begin 1 0 1",
            "modes 2 starts 00 begin 1 0 1", "modes 2 starts 10 begin 1 0 1", "modes 2 starts -1 begin 1 0 1",
            "modes 2 starts 0 begin 1 00 1", "modes 2 starts 0 begin 01 0 1", "modes 2 starts 0 begin 1 -0 1",
            "modes 2 starts 0 begin 1 +0 1", "modes 2 starts 0 begin 1 0 x", "modes 2 starts 0 begin 1 0 1_0",
            "modes two starts 0 begin 1 0 1", "mode 2 starts 0 begin 1 0 1", "modes 2 start 0 begin 1 0 1",
            "modes 2 starts 0 begins 1 0 1", "Modes 2 starts 0 begin 1 0 1", "modes 2 starts 0 begin 1 begin 0 1",
            "modes 2 starts 0 starts begin 1 0 1", "modes 2 begin 1 0 1 starts 0", "modes begin starts 0 begin 1 0 1",
            "modes 2 starts 0 begin 1 0 1\t", "modes 2 starts 0 begin 1 0 1" + "0" * 40, "modes 2 starts 0 begin",
            "procedure open 3", "  go 0 1 by 01", "modes 2 starts x begin 1 0 1", "modes 2 starts 0 begin 1 0 1\r",
        )

    def test_lines_of_procedures(self):
        self.refuse(
            1, "", "procedure", "procedure open", "procedure 3", "procedure open 3 ", " procedure open 3",
            "procedure  open 3", "procedure open  3", "procedure open 03", "procedure open 13", "procedure open -3",
            "procedure open 3 3", "procedure open x", "procedure Open 3", "procedure open1 3", "procedure op-en 3",
            "procedure openopens 3", "procedures open 3", "procedur open 3", "procedure open 3\t", "Procedure open 3",
            "procedure  3", "  procedure open 3", FIRST, "  leave 2 in 1", "procedure open\t3",
        )

    def test_lines_of_goes(self):
        self.refuse(
            2, "go 0 1 by 01", " go 0 1 by 01", "   go 0 1 by 01", "  go 0 1 by", "  go 0 1 by ", "  go 0 1 by 0",
            "  go 0 1 by 010", "  go 0 1 by 01 1", "  go 0 1 by 01 ", "  go 0 1  by 01", "  go 0 1 by  01",
            "  go  0 1 by 01", "  go 00 1 by 01", "  go 0 10 by 01", "  go 0 1 in 01", "  go 0 1 01", "  go 0 by 01",
            "  go 0 1 by 0 1", "  go 0 1 by 0,1", "  go 0 1 by -1", "  go 0 1 by 01 by 10", "  Go 0 1 by 01",
            "  go x 1 by 01", "  go 0 x by 01", "  gone 0 1 by 01", "  by 0 1 go 01", "  ", "", "\tgo 0 1 by 01",
            "  go 0 1 by xx", "  go 0 1 2 by 01",
        )

    def test_lines_of_calls_and_posts(self):
        for kind in ("call", "post"):
            self.refuse(
                3, f"{kind} 1 2 work in 1", f" {kind} 1 2 work in 1", f"   {kind} 1 2 work in 1",
                f"  {kind} 1 2 work in", f"  {kind} 1 2 work in ", f"  {kind} 1 2 work in 1 ", f"  {kind} 1 2 work 1",
                f"  {kind} 1 2 in 1", f"  {kind} 1 work in 1", f"  {kind} 1 2 work in 01", f"  {kind} 1 2 work by 1",
                f"  {kind} 1 2 Work in 1", f"  {kind} 1 2 workworkw in 1", f"  {kind} 1 2  in 1",
                f"  {kind} 11 2 work in 1", f"  {kind} 1 22 work in 1", f"  {kind} 1 2 work in x",
                f"  {kind} 1  2 work in 1", f"  {kind} 1 2 work  in 1", f"  {kind} 1 2 work in  1",
                f"  {kind} 1 2 work work in 1", f"  {kind}s 1 2 work in 1", f"  {kind} 1 2 work in 1 in 1",
                f"  {kind} 1 2 3 in 1", f"  {kind} 1 2 work in -1",
            )

    def test_lines_of_leaves(self):
        self.refuse(
            4, "leave 2 in 1", " leave 2 in 1", "   leave 2 in 1", "  leave 2 in", "  leave 2 in ", "  leave 2 in 1 ",
            "  leave 2 1", "  leave in 1", "  leave 22 in 1", "  leave 2 in 11", "  leave 2  in 1", "  leave 2 in  1",
            "  leave 2 by 1", "  leave x in 1", "  leave 2 in x", "  leaves 2 in 1", "  leave 2 2 in 1", "  Leave 2 in 1",
            "  leave 2 in 0 1 ", "  leave", "  leave 2", "  leave 2 in 1 in 0",
        )

    def test_other_digits_and_letters(self):
        for sign in ("\u0661", "\u00b2", "\uff11"):
            self.refuse(0, f"modes {sign} starts 0 begin 1 0 1", f"modes 2 starts {sign} begin 1 0 1",
                        f"modes 2 starts 0 begin {sign} 0 1")
            self.refuse(1, f"procedure open {sign}")
            self.refuse(2, f"  go {sign} 1 by 01", f"  go 0 1 by 0{sign}")
            self.refuse(4, f"  leave 2 in {sign}")
        self.refuse(1, "procedure \u00f6pen 3")

    def test_forty_digits_and_one_more(self):
        self.assertEqual(read_program(DOOR_TEXT.replace("1 0 1", f"1 0 {HUGE}", 1)).begin, (1, 0, HUGE))
        self.refuse(0, f"modes 2 starts 0 begin 1 0 1{'0' * 40}", f"modes 2 starts 0 begin 1 0 0{HUGE}")

    def test_the_first_wrong_line_is_told(self):
        lines = DOOR_TEXT.split("\n")
        for first in range(len(lines)):
            for second in range(first, len(lines)):
                broken = list(lines)
                broken[second] = "nothing"
                broken[first] = ""
                self.assertEqual(wrong_line("\n".join(broken)), first)

    def test_it_keeps_the_index(self):
        with self.assertRaises(ParseError) as caught:
            read_program(DOOR_TEXT + "\n")
        self.assertEqual(caught.exception.line, 11)
        self.assertIs(type(caught.exception.line), int)


class OrderTest(unittest.TestCase):
    def test_the_empty_text_and_newlines(self):
        self.assertEqual(wrong_line(""), 0)
        self.assertEqual(wrong_line("\n"), 0)
        self.assertEqual(wrong_line("\n" + DOOR_TEXT), 0)
        self.assertEqual(wrong_line(DOOR_TEXT + "\n"), 11)
        self.assertEqual(wrong_line(DOOR_TEXT + "\n\n"), 11)
        self.assertEqual(wrong_line(DOOR_TEXT.replace("\n", "\n\n", 1)), 1)
        self.assertEqual(wrong_line(DOOR_TEXT.replace("\n", "\r\n")), 0)
        self.assertEqual(wrong_line(DOOR_TEXT.replace("\n", "\r")), 0)

    def test_the_first_line_stands_nowhere_else(self):
        lines = DOOR_TEXT.split("\n")
        for at in range(1, len(lines) + 1):
            self.assertEqual(wrong_line("\n".join(lines[:at] + [lines[0]] + lines[at:])), at)

    def test_a_move_stands_behind_a_procedure(self):
        lines = DOOR_TEXT.split("\n")
        for line in lines:
            if line.startswith("  "):
                self.assertEqual(wrong_line("\n".join([lines[0], line] + lines[1:])), 1, line)
                self.assertEqual(wrong_line("\n".join([line] + lines)), 0, line)

    def test_lines_that_are_missing(self):
        lines = DOOR_TEXT.split("\n")
        self.assertEqual(wrong_line("\n".join(lines[1:])), 0)
        self.assertEqual(wrong_line("\n".join(lines[:1] + lines[2:])), 1)
        for at in (2, 3, 4):
            left = read_program("\n".join(lines[:at] + lines[at + 1:]))
            self.assertEqual(left["open"].moves, OPEN.moves[:at - 2] + OPEN.moves[at - 1:])
        # Without its line, the moves of a procedure are moves of the one ahead of it.
        self.assertEqual(wrong_line("\n".join(lines[:5] + lines[6:])), "program")

    def test_lines_that_are_doubled_or_moved(self):
        lines = DOOR_TEXT.split("\n")
        doubled = read_program("\n".join(lines[:3] + lines[2:]))
        self.assertEqual(doubled["open"].moves, OPEN.moves[:1] + OPEN.moves)
        turned = read_program("\n".join(lines[:2] + [lines[4], lines[3], lines[2]] + lines[5:]))
        self.assertEqual(turned["open"].moves, OPEN.moves[::-1])
        self.assertEqual(wrong_line("\n".join(lines + lines[1:5])), "program")


class NoProgramTest(unittest.TestCase):
    """Texts of which each line is right."""

    def refuse(self, *lines):
        self.assertEqual(wrong_line("\n".join(lines)), "program", lines)

    def test_first_lines(self):
        for first in ("modes 0 starts 0 begin 1", "modes 6 starts 0 begin 1", "modes 9 starts 0 begin 1",
                      "modes 2 starts 2 begin 1", "modes 2 starts 1 0 begin 1", "modes 2 starts 0 0 begin 1",
                      "modes 2 starts 0 begin 1 0", "modes 5 starts 0 1 2 3 4 5 begin 1"):
            self.refuse(first, "procedure p 1")

    def test_no_procedures_and_too_many(self):
        self.refuse("modes 1 starts 0 begin 1")
        self.refuse("modes 1 starts 0 begin 1 1 1 1 1 1", *[f"procedure {name} 1" for name in "abcdef"])

    def test_procedures(self):
        first = "modes 2 starts 0 begin 1"
        for rows in (("procedure p 0",), ("procedure p 7",), ("procedure p 1", "  leave 1 in 0"),
                     ("procedure p 1", "  leave 0 in 2"), ("procedure p 1", "  leave 0 in 1 0"),
                     ("procedure p 1", "  leave 0 in 0 0"), ("procedure p 1", "  go 0 1 by 00"),
                     ("procedure p 1", "  go 1 0 by 00"), ("procedure p 1", "  go 0 0 by 02"),
                     ("procedure p 1", "  go 0 0 by 01 00"), ("procedure p 1", "  go 0 0 by 00 00"),
                     ("procedure p 1", "  call 0 0 q in 0"), ("procedure p 1", "  post 0 0 q in 0"),
                     ("procedure p 1", "  post 0 0 p in 1 0"), ("procedure p 1", *["  leave 0 in 0"] * 13)):
            self.refuse(first, *rows)
        self.refuse("modes 2 starts 0 begin 1 1", "procedure p 1", "procedure p 1")

    def test_wrong_lines_come_ahead(self):
        self.assertEqual(wrong_line("modes 9 starts 0 begin 1\nprocedure p 0\n  leave 9 in 9\n\n"), 3)
        self.assertEqual(wrong_line("modes 9 starts 0 begin 1\nprocedure p 0\nprocedure p 0"), "program")

    def test_no_string(self):
        for value in odd_values():
            if not isinstance(value, str):
                with self.assertRaises(InvalidProgram) as caught:
                    read_program(value)
                self.assertIs(type(caught.exception), InvalidProgram)
        for value in odd_values():
            if isinstance(value, str):
                self.assertEqual(wrong_line(value), 0, value)


if __name__ == "__main__":
    unittest.main()
