"""Runs of a program, step by step."""

from postedbag.base.checks import check_program, is_start
from postedbag.base.words import is_index
from postedbag.errors import InvalidNumber, InvalidOperation, InvalidRun, TooMany
from postedbag.run.situations import has_form, next_situations

MOST_STEPS = 1000


def is_situation(program, value):
    """Whether the value is a situation of the program by its form."""
    check_program(program)
    return has_form(program, value)


def options(program, situation):
    """The situations behind one step."""
    check_program(program)
    if not has_form(program, situation):
        raise InvalidOperation("a situation of the program is needed")
    return next_situations(program, situation)


class Run:
    """A run from a start; each choice is the index of an option."""

    def __init__(self, program, start, *choices):
        check_program(program)
        situations = walked(program, start, choices)
        if situations is None:
            raise InvalidRun("a run has a start, and the index of an option for each step")
        if len(choices) > MOST_STEPS:
            raise TooMany(MOST_STEPS)
        self._program = program
        self._start = start
        self._choices = choices
        self._situations = situations

    @classmethod
    def of(cls, program, start, choices):
        """The run with the choices of a tuple."""
        check_program(program)
        if not isinstance(choices, tuple):
            raise InvalidRun("the choices are a tuple")
        return cls(program, start, *choices)

    @property
    def program(self):
        """Its program."""
        return self._program

    @property
    def start(self):
        """The mode in which it begins."""
        return self._start

    @property
    def choices(self):
        """The index of an option for each step."""
        return self._choices

    @property
    def situation(self):
        """The last situation."""
        return self._situations[-1]

    @property
    def situations(self):
        """All situations, the first one too."""
        return self._situations

    @property
    def mode(self):
        """The mode of the last situation."""
        return self._situations[-1][0]

    @property
    def bag(self):
        """The bag of the last situation."""
        return self._situations[-1][1]

    @property
    def taken(self):
        """The names of all tasks that were taken, in order."""
        pairs = list(zip(self._situations, self._situations[1:]))
        return tuple([behind[3][0] for ahead, behind in pairs if ahead[3] is None])

    @property
    def is_between(self):
        """Whether the last situation is between tasks."""
        return self._situations[-1][3] is None

    def back(self, *, many=1):
        """The run without its last steps."""
        if not is_index(many, len(self._choices) + 1):
            raise InvalidNumber(many)
        kept = len(self._choices) - many
        shorter = Run(self._program, self._start)
        shorter._choices = self._choices[:kept]
        shorter._situations = self._situations[:kept + 1]
        return shorter

    def __add__(self, other):
        found = next_situations(self._program, self._situations[-1])
        if not is_index(other, len(found)):
            raise InvalidOperation("the index of an option is needed")
        if len(self._choices) >= MOST_STEPS:
            raise TooMany(MOST_STEPS)
        # The steps that were made are not made again: a run that grows would take ever longer for each step.
        longer = Run(self._program, self._start)
        longer._choices = self._choices + (other,)
        longer._situations = self._situations + (found[other],)
        return longer

    def __len__(self):
        return len(self._choices)

    def __eq__(self, other):
        if not isinstance(other, Run):
            return False
        if self._start != other._start or self._choices != other._choices:
            return False
        return self._program == other._program

    def __str__(self):
        return f"run of {len(self._choices)} steps, {len(self.taken)} tasks"


def walked(program, start, choices):
    """The tuple of all situations of a run, or None if it is none."""
    if not is_start(program, start):
        return None
    situations = [(start, program.begin, (), None)]
    for choice in choices:
        found = next_situations(program, situations[-1])
        if not is_index(choice, len(found)):
            return None
        situations.append(found[choice])
    return tuple(situations)
