"""Shells: programs with names, and commands that change and ask them."""

from postedbag.ask.covers import covers, least_takes
from postedbag.ask.piles import most_waiting, piles
from postedbag.ask.places import place_covers
from postedbag.ask.rows import greatest_length
from postedbag.compare.posts import idle_posts
from postedbag.compare.programs import extra
from postedbag.errors import InvalidCommand, InvalidOperation, TooMany, UnknownName
from postedbag.text.commands import read_command
from postedbag.text.texts import read_program, write_program

MOST_PROGRAMS = 8
# The commands that change the programs; all others ask them.
CHANGES = ("new", "copy", "drop", "hush", "start", "begin")


class Shell:
    """At most eight programs with names."""

    def __init__(self):
        self._programs = {}
        self._script = []

    @classmethod
    def replayed(cls, script):
        """A shell in which the commands of a tuple have been run."""
        if not isinstance(script, tuple):
            raise InvalidCommand("a tuple of commands is needed")
        shell = cls()
        for command in script:
            shell.run(command)
        return shell

    @property
    def names(self):
        """The ascending tuple of the names of the programs."""
        return tuple(sorted(self._programs))

    @property
    def programs(self):
        """A dict from the names to the programs."""
        return {name: self._programs[name] for name in sorted(self._programs)}

    @property
    def script(self):
        """The tuple of all commands that changed the shell, in their order."""
        return tuple(self._script)

    def run(self, command):
        """Do what a command tells, and return the reply."""
        read = read_command(command)
        if read is None:
            raise InvalidCommand("a command is needed")
        word, names, told = read
        self._check_names(word, names)
        if word not in CHANGES:
            return answer(word, [self._programs[name] for name in names] + told)
        reply = self._change(word, names, told)
        self._script.append(command)
        return reply

    def __call__(self, command):
        return self.run(command)

    def __contains__(self, value):
        return value in list(self._programs)

    def __len__(self):
        return len(self._programs)

    def __eq__(self, other):
        if not isinstance(other, Shell):
            return False
        return self._programs == other._programs

    def __str__(self):
        return f"shell with {len(self._programs)} programs"

    def _check_names(self, word, names):
        """Raise an error for the first name that has to be there and is not, or the other way round."""
        given = names[-1:] if word in ("new", "copy") else []
        for name in names[:len(names) - len(given)]:
            if name not in self._programs:
                raise UnknownName(name)
        for name in given:
            if name in self._programs:
                raise InvalidOperation("there is a program of this name")

    def _change(self, word, names, told):
        """Change the programs, and return the reply."""
        if word == "drop":
            del self._programs[names[0]]
            return None
        program = self._made(word, names, told)
        if names[-1] not in self._programs and len(self._programs) == MOST_PROGRAMS:
            raise TooMany(MOST_PROGRAMS)
        self._programs[names[-1]] = program
        return str(program) if word == "new" else None

    def _made(self, word, names, told):
        """The program that a command makes."""
        if word == "new":
            return read_program(told[0])
        program = self._programs[names[0]]
        if word == "hush":
            return program.without_posts(told[0])
        if word == "start":
            return program.with_starts(told[0])
        return program.with_begin(told[0]) if word == "begin" else program


def answer(word, asked):
    """The reply to a command that asks, with the programs and the values that it asks for."""
    questions = {
        "text": write_program,
        "covers": covers,
        "takes": least_takes,
        "place": place_covers,
        "most": most_waiting,
        "piles": piles,
        "length": greatest_length,
        "idle": idle_posts,
        "more": extra,
    }
    question = questions[word]
    return question(*asked)
