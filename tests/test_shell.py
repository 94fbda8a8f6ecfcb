"""[19.1] and stage 19: a shell."""

import unittest

from postedbag.ask.covers import covers, least_takes
from postedbag.ask.piles import most_waiting, piles
from postedbag.ask.places import place_covers
from postedbag.ask.rows import greatest_length
from postedbag.compare.posts import idle_posts
from postedbag.compare.programs import extra
from postedbag.errors import (
    InvalidBag, InvalidCommand, InvalidMode, InvalidOperation, InvalidPlace, InvalidProgram, ParseError, TooMany,
    UnknownName, UnknownSite,
)
from postedbag.text.shell import Shell
from postedbag.text.texts import write_program
from tests.samples import DOOR, HUGE, JOBS, TREE, odd_values
from tests.test_needs import CLOCK
from tests.test_tops import TURNS

# Right commands for a shell with DOOR as door, and JOBS as jobs.
RIGHT = (
    "copy door other", "drop jobs", "hush door open 1", "hush door open 1 work 0", "start door 0 1", "begin door 1 2 3",
    "text door", "covers door 1 1 0 1", "takes door 1 1 0 1", "place door open 2 1 0 1 1", "most door work", "piles jobs",
    "length door", "idle door", "more door door",
)


def shell_with(**programs):
    """A shell with some programs."""
    shell = Shell()
    for name, program in programs.items():
        shell.run(f"new {name}\n{write_program(program)}")
    return shell


def some_shell():
    """A shell with two programs."""
    return shell_with(door=DOOR, jobs=JOBS)


def state_of(shell):
    """All that a shell tells of itself."""
    return shell.names, shell.programs, shell.script, len(shell), str(shell)


class CommandsTest(unittest.TestCase):
    def test_new(self):
        shell = Shell()
        self.assertEqual(shell.run("new door\n" + write_program(DOOR)), str(DOOR))
        self.assertEqual(shell("new jobs\n" + write_program(JOBS)), "program of 2 procedures, 1 modes")
        self.assertEqual((shell.names, shell.programs), (("door", "jobs"), {"door": DOOR, "jobs": JOBS}))
        self.assertEqual((len(shell), str(shell)), (2, "shell with 2 programs"))

    def test_those_that_change(self):
        shell = some_shell()
        self.assertIsNone(shell("copy door other"))
        self.assertIsNone(shell("hush door open 1 work 0 open 1"))
        self.assertEqual(shell.programs["door"], DOOR.without_posts(DOOR.posts))
        self.assertEqual(shell.programs["other"], DOOR)
        self.assertIsNone(shell("start other 0 1"))
        self.assertIsNone(shell(f"begin other {HUGE} 0 12"))
        self.assertEqual(shell.programs["other"], DOOR.with_starts((0, 1)).with_begin((HUGE, 0, 12)))
        self.assertIsNone(shell("drop jobs"))
        self.assertEqual(shell.names, ("door", "other"))
        self.assertEqual(list(shell.programs), ["door", "other"])

    def test_those_that_ask(self):
        shell = shell_with(door=DOOR, jobs=JOBS, tree=TREE, less=JOBS.without_posts(JOBS.posts))
        before = state_of(shell)
        less = shell.programs["less"]
        for command, reply in (
            ("text door", write_program(DOOR)), ("covers door 1 1 0 1", True), ("covers door 1 1 1 0", False),
            (f"covers jobs 0 0 {HUGE}", covers(JOBS, 0, (0, HUGE))), ("takes door 1 1 0 1", 2), ("takes door 1 1 1 0", None),
            (f"takes jobs 0 0 {HUGE}", least_takes(JOBS, 0, (0, HUGE))), ("place door open 2 1 0 1 1", True),
            ("place door work 1 0 0 0 0", place_covers(DOOR, ("work", 1, 0), (0, 0, 0))), ("most door work", 1),
            ("most jobs job", most_waiting(JOBS, "job")), ("piles jobs", piles(JOBS)), ("piles door", ()),
            ("length door", 5), ("length jobs", greatest_length(JOBS)), ("idle door", idle_posts(DOOR)),
            ("idle tree", idle_posts(TREE)), ("more jobs less", extra(JOBS, less)), ("more less jobs", ()),
        ):
            self.assertEqual(shell.run(command), reply, command)
            self.assertEqual(shell(command), reply, command)
        self.assertEqual(state_of(shell), before)

    def test_right_words(self):
        for command in RIGHT:
            some_shell().run(command)

    def test_words_left_out_doubled_and_exchanged(self):
        for command in RIGHT:
            words = command.split(" ")
            for at, word in enumerate(words):
                self.check_form(words[:at] + words[at + 1:], words, at)
                self.check_form(words[:at] + [word] + words[at:], words, at)
                if at + 1 < len(words):
                    self.check_form(words[:at] + [words[at + 1], word] + words[at + 2:], words, at)

    def check_form(self, other, words, at):
        """Whether words that are nearly a command's do something else than the command, or raise an error."""
        if other == words:
            return
        errors = (InvalidCommand, UnknownName, UnknownSite, InvalidOperation, InvalidBag, InvalidMode, InvalidPlace)
        try:
            some_shell().run(" ".join(other))
        except errors as error:
            # With numbers left out, doubled or exchanged the words can still be a command's, of another thing.
            digits = all(word.isdigit() for word in words[at:at + 1])
            names = words[0] in ("copy", "more", "hush", "place", "most", "drop")
            self.assertTrue(isinstance(error, InvalidCommand) or digits or names, (other, error))
        else:
            # Sites can stand twice, and numbers can be exchanged.
            self.assertIn(words[0], ("hush", "begin", "covers", "takes", "place", "start", "copy", "more"), other)

    def test_blanks_and_newlines(self):
        for command in RIGHT:
            for other in (command + " ", " " + command, command + "\n", "\n" + command, command.replace(" ", "  ", 1),
                          command.replace(" ", "\n", 1), command.replace(" ", "", 1), command + "\n" + write_program(DOOR),
                          command.upper(), command + " 0 ", command.replace(" ", "\t", 1)):
                self.assertRaises(InvalidCommand, some_shell().run, other)
        for head in ("new", "new ", "new other", "new other ", " new other", "new  other", "new other door", "new Other", "NEW other",
                     "new other1", "new \nother"):
            self.assertRaises(InvalidCommand, Shell().run, head)
            if head not in ("new other",):
                self.assertRaises(InvalidCommand, Shell().run, head + "\n" + write_program(DOOR))

    def test_no_commands(self):
        for value in ("", " ", "\n", "door", "open door", "undo", "text", "new", "copy", "text door jobs", *odd_values()):
            self.assertRaises(InvalidCommand, some_shell().run, value)
            self.assertRaises(InvalidCommand, some_shell(), value)

    def test_names(self):
        for name in ("Door", "door1", "toolongname", "", "do-or", "d\u00f6or"):
            for command in (f"text {name}", f"copy door {name}", f"copy {name} door", f"more door {name}", f"most door {name}",
                            f"hush door {name} 1", f"place door {name} 0 0 0 0 0", f"new {name}\n" + write_program(DOOR)):
                self.assertRaises(InvalidCommand, some_shell().run, command)

    def test_numbers(self):
        long = "1" * 41
        for command in (
            "covers door 01 1 0 1", "covers door 1 1 0 01", "covers door 1 00 0 1", "covers door 100 1 0 1", "covers door 1",
            f"covers door 1 {long} 0 1", "covers door -1 1 0 1", "covers door +1 1 0 1", "covers door 1 1 0 -1",
            "covers door 1 1 0 1.0", "covers door one 1 0 1", "takes door 1", "takes door 000 0 0 0", "begin door", "begin door 01 1 1",
            f"begin door {long} 1 1", "start door", "start door 00", "start door 1 0", "start door 0 0", "start door 0 100",
            "start door 0 1 1", "hush door", "hush door open", "hush door open 1 work", "hush door 1 open", "hush door open 100",
            "hush door open 01", "hush door open -1", "hush door open 1 1", "place door open 100 0 0 0 0", "place door open 0 100 0 0 0",
            "place door open 00 0 0 0 0", "place door open 0 0", "place door 0 open 0 0 0 0", f"place door open 0 0 {long} 0 0",
            "most door", "most door 1", "piles", "length door 1", "idle door door", "more door", "text door door", "drop",
        ):
            shell = some_shell()
            before = state_of(shell)
            self.assertRaises(InvalidCommand, shell.run, command)
            self.assertEqual(state_of(shell), before)
        forty = "9" * 40
        self.assertIs(some_shell()(f"covers jobs 0 0 {forty}"), True)
        self.assertIs(some_shell()(f"covers jobs 0 {forty} 0"), False)
        self.assertIsNone(some_shell()(f"begin jobs {forty} {forty}"))

    def test_other_things_than_the_functions_want(self):
        for command, error in (
            ("covers door 2 1 0 1", InvalidMode), ("covers door 10 1 0 1", InvalidMode), ("covers door 99 1", InvalidMode),
            ("covers door 1 1 0", InvalidBag), ("takes door 1 1 0 1 0", InvalidBag), ("start door 2", InvalidOperation),
            ("start door 0 1 10", InvalidOperation), ("begin door 1 1", InvalidOperation), ("begin door 1 1 1 1", InvalidOperation),
            ("hush door open 0", UnknownSite), ("hush door open 99", UnknownSite), ("hush door door 1", UnknownSite),
            ("place door open 3 0 0 0 0", InvalidPlace), ("place door open 10 0 0", InvalidPlace), ("place door door 0 0 0", InvalidPlace),
            ("place door open 0 2 0 0 0", InvalidPlace), ("place door open 0 0 0 0", InvalidBag), ("most door jobs", UnknownName),
            ("more door jobs", InvalidOperation),
        ):
            shell = some_shell()
            before = state_of(shell)
            self.assertRaises(error, shell.run, command)
            self.assertEqual(state_of(shell), before)
        with self.assertRaises(UnknownSite) as caught:
            some_shell().run("hush door open 1 work 1")
        self.assertEqual(caught.exception.site, ("work", 1))

    def test_what_is_too_many(self):
        shell = shell_with(turns=TURNS.with_begin((HUGE, 0)), clock=CLOCK)
        for command, limit in (("covers turns 0 0 0", 400), ("takes turns 0 0 0", 400), ("takes clock 0 0 1001", 1000),
                               ("place turns p 0 0 0 0", 400), ("most turns p", 400), ("piles turns", 400), ("length turns", 400),
                               ("idle turns", 400), ("more turns turns", 400)):
            with self.assertRaises(TooMany) as caught:
                shell.run(command)
            self.assertEqual(caught.exception.limit, limit)
        self.assertRaises(InvalidMode, shell.run, "covers turns 1 0 0")


class NamesTest(unittest.TestCase):
    def test_names_that_are_not_there(self):
        for command in RIGHT:
            words = command.split(" ")
            with self.assertRaises(UnknownName) as caught:
                some_shell().run(" ".join([words[0], "none", *words[2:]]))
            self.assertEqual(caught.exception.name, "none")
        for command, name in (("more none nobody", "none"), ("more door nobody", "nobody"), ("more nobody door", "nobody"),
                              ("copy none other", "none"), ("copy none door", "none"), ("copy none none", "none"),
                              ("covers none 99 1", "none"), ("start none 99", "none"), ("hush none open 99", "none")):
            with self.assertRaises(UnknownName) as caught:
                some_shell().run(command)
            self.assertEqual(caught.exception.name, name)

    def test_names_that_are_there_already(self):
        for command in ("copy door jobs", "copy door door", "new door\n" + write_program(DOOR), "new door\nno text", "new door\n"):
            shell = some_shell()
            before = state_of(shell)
            self.assertRaises(InvalidOperation, shell.run, command)
            self.assertEqual(state_of(shell), before)

    def test_texts(self):
        for text, error in (("", ParseError), ("no text", ParseError), (write_program(DOOR) + "\n", ParseError),
                            ("modes 9 starts 0 begin 1\nprocedure a 1", InvalidProgram), ("\n" + write_program(DOOR), ParseError)):
            shell = some_shell()
            before = state_of(shell)
            self.assertRaises(error, shell.run, "new other\n" + text)
            self.assertEqual(state_of(shell), before)
        with self.assertRaises(ParseError) as caught:
            Shell().run("new other\n" + write_program(DOOR) + "\nno line")
        self.assertEqual(caught.exception.line, write_program(DOOR).count("\n") + 1)

    def test_a_ninth_program(self):
        shell = some_shell()
        for name in "abcdef":
            shell.run(f"copy jobs {name}")
        self.assertEqual(len(shell), 8)
        before = state_of(shell)
        text = write_program(DOOR)
        for command, error in (
            ("copy door ninth", TooMany), ("new ninth\n" + text, TooMany), ("new ninth\nno text", ParseError), ("copy none ninth", UnknownName),
            ("copy door a", InvalidOperation), ("new a\n" + text, InvalidOperation), ("copy door ninth 1", InvalidCommand),
            ("new ninth", InvalidCommand), ("new ninth\nmodes 1 starts 1 begin 1", InvalidProgram),
        ):
            with self.assertRaises(error) as caught:
                shell.run(command)
            if error is TooMany:
                self.assertEqual(caught.exception.limit, 8)
            self.assertEqual(state_of(shell), before)
        self.assertIsNone(shell.run("hush door open 1"))
        self.assertIsNone(shell.run("drop door"))
        self.assertEqual(shell.run("new ninth\n" + text), str(DOOR))


class ScriptTest(unittest.TestCase):
    def test_what_it_holds(self):
        shell = some_shell()
        commands = list(shell.script)
        self.assertEqual(commands, ["new door\n" + write_program(DOOR), "new jobs\n" + write_program(JOBS)])
        # The same post cannot be left out twice, and the program jobs is dropped.
        done = [command for command in RIGHT if command not in ("piles jobs", "hush door open 1 work 0")]
        for command in done:
            shell(command)
        changing = [command for command in done if command.split(" ")[0] in ("copy", "drop", "hush", "start", "begin")]
        self.assertEqual(shell.script, (*commands, *changing))
        for command in ("hush door open 0", "drop none", "copy door other", "begin door 1", "start door 7", "new door\n", "text none", 1):
            self.assertRaises((UnknownSite, UnknownName, InvalidOperation, InvalidCommand), shell.run, command)
        self.assertEqual(shell.script, (*commands, *changing))

    def test_replayed(self):
        shell = some_shell()
        states = [Shell(), shell_with(door=DOOR), some_shell()]
        for command in ("copy door other", "hush door open 1", "start other 0 1", "begin jobs 5 5", "drop door"):
            shell(command)
            again = Shell.replayed(shell.script)
            self.assertEqual(state_of(again), state_of(shell))
            self.assertEqual(again, shell)
            states.append(again)
        for many, state in enumerate(states):
            self.assertEqual(Shell.replayed(shell.script[:many]), state)
        self.assertEqual(Shell.replayed(()), Shell())
        asked = Shell.replayed((shell.script[0], "length door", "text door"))
        self.assertEqual(asked.script, shell.script[:1])

    def test_what_cannot_be_replayed(self):
        shell = some_shell()
        for value in odd_values():
            if not isinstance(value, tuple):
                self.assertRaises(InvalidCommand, Shell.replayed, value)
            elif value != ():
                self.assertRaises(InvalidCommand, Shell.replayed, value)
        self.assertRaises(InvalidCommand, Shell.replayed, list(shell.script))
        self.assertRaises(InvalidCommand, Shell.replayed, shell.script + ("no command",))
        self.assertRaises(UnknownName, Shell.replayed, shell.script[:1] + ("drop jobs",))
        self.assertRaises(InvalidOperation, Shell.replayed, shell.script * 2)
        self.assertRaises(ParseError, Shell.replayed, ("new door\nno text", None))


class ObjectTest(unittest.TestCase):
    def test_equal_ones(self):
        shell = some_shell()
        self.assertTrue(shell == shell_with(jobs=JOBS, door=DOOR))
        other = some_shell()
        other("copy door more")
        self.assertTrue(shell != other and not shell == other)
        other("drop more")
        self.assertEqual(shell, other)
        other("hush door open 1")
        self.assertNotEqual(shell, other)
        self.assertNotEqual(shell_with(door=DOOR), shell_with(open=DOOR))
        for value in odd_values():
            self.assertFalse(shell == value)
            self.assertTrue(shell != value)

    def test_items(self):
        shell = some_shell()
        self.assertTrue("door" in shell and "jobs" in shell and "open" not in shell)
        for value in odd_values():
            self.assertIs(value in shell, False)
        self.assertRaises(TypeError, iter, shell)
        self.assertEqual((len(Shell()), str(Shell()), Shell().names, Shell().script), (0, "shell with 0 programs", (), ()))
        self.assertEqual(Shell().programs, {})

    def test_no_access_to_the_state(self):
        shell = some_shell()
        shell.programs.clear()
        self.assertEqual(shell.programs, {"door": DOOR, "jobs": JOBS})
        for name in ("names", "programs", "script"):
            with self.assertRaises(AttributeError):
                setattr(shell, name, ())

    def test_shells_are_independent(self):
        one, other = Shell(), Shell()
        one("new door\n" + write_program(DOOR))
        self.assertEqual((len(one), len(other)), (1, 0))


if __name__ == "__main__":
    unittest.main()
