"""Projects: a program that changes only so that its promises are kept."""

from postedbag.base.checks import check_program
from postedbag.base.words import is_integer, is_name
from postedbag.errors import InvalidNumber, InvalidOperation, NothingToUndo, Refused, UnknownName
from postedbag.house.promises import is_kept, is_promise


class State:
    """What a project is at one time; a state never changes."""

    def __init__(self, program, promises, deed, past, future):
        self.current = program
        # The pairs of a name and a promise, ascending.
        self.pairs = promises
        # The name of the call that led here, and the state ahead of it; None for both at the beginning.
        self.deed = deed
        self.past = past
        # The states that can be come to again, the next one first, each with what is told here of it.
        self.future = future


class Trial:
    """A block behind which a project is as it was when the block began."""

    def __init__(self, project):
        self._project = project
        self._saved = project.state

    def __enter__(self):
        self._saved = self._project.state
        return self._project

    def __exit__(self, kind, value, trace):
        project = self._project
        project.state = self._saved


class Project:
    """A program, and promises about it that are kept whatever is changed."""

    def __init__(self, program):
        check_program(program)
        self.state = State(program, (), None, None, ())

    @property
    def program(self):
        """Its program."""
        return self.state.current

    @property
    def promises(self):
        """A dict from the names of its promises to these."""
        return {name: parts for name, parts in self.state.pairs}

    @property
    def deeds(self):
        """The names of the calls that changed it and that have not been taken back, in their order."""
        return tuple([state.deed for state in states_behind(self.state)])

    def promise(self, name, *parts):
        """Make a promise about the program."""
        if not is_name(name) or name in self:
            raise InvalidOperation("a name that has no promise yet is needed")
        if not is_promise(self.program, parts):
            raise InvalidOperation("a promise about the program is needed")
        if not is_kept(self.program, parts):
            raise Refused(name)
        self._do("promise", self.program, tuple(sorted([*self.state.pairs, (name, parts)], key=lambda pair: pair[0])))

    def forget(self, name):
        """Forget a promise."""
        if name not in self:
            raise UnknownName(name)
        self._do("forget", self.program, tuple([pair for pair in self.state.pairs if pair[0] != name]))

    def put(self, procedure):
        """Put a procedure into the program."""
        self._change("put", self.program.with_procedure(procedure))

    def hush(self, sites):
        """Leave out posts."""
        self._change("hush", self.program.without_posts(sites))

    def restart(self, modes):
        """Let runs begin in other modes."""
        self._change("restart", self.program.with_starts(modes))

    def rebegin(self, bag):
        """Let runs begin with another bag."""
        self._change("rebegin", self.program.with_begin(bag))

    def undo(self, *, many=1):
        """Take back so many calls, and tell how many can still be taken back."""
        check_many(many, len(self.deeds))
        for _ in range(many):
            state = self.state
            past = state.past
            self.state = State(past.current, past.pairs, past.deed, past.past, (state, *state.future))
        return len(self.deeds)

    def redo(self, *, many=1):
        """Do so many calls again that have been taken back, and tell how many can still be taken back."""
        check_many(many, len(self.state.future))
        for _ in range(many):
            state = self.state
            after = state.future[0]
            self.state = State(after.current, after.pairs, after.deed, state, state.future[1:])
        return len(self.deeds)

    def twin(self):
        """An independent copy."""
        copy = Project(self.program)
        copy.state = self.state
        return copy

    def trial(self):
        """A block behind which the project is as it was when the block began."""
        return Trial(self)

    def during(self, call):
        """What a call with the project returns, within such a block."""
        with self.trial() as same:
            return call(same)

    def __getitem__(self, name):
        for own, parts in self.state.pairs:
            if own == name:
                return parts
        raise UnknownName(name)

    def __iter__(self):
        raise TypeError("a project cannot be iterated over")

    def __contains__(self, value):
        return value in [name for name, _ in self.state.pairs]

    def __len__(self):
        return len(self.state.pairs)

    def __eq__(self, other):
        if not isinstance(other, Project):
            return False
        return self.state.current == other.state.current and self.state.pairs == other.state.pairs

    def __str__(self):
        return f"project with {len(self.state.pairs)} promises"

    def _change(self, deed, program):
        """Take another program, if it keeps all promises."""
        for name, parts in self.state.pairs:
            if not is_kept(program, parts):
                raise Refused(name)
        self._do(deed, program, self.state.pairs)

    def _do(self, deed, program, pairs):
        """Go on to another state, which ends what could be done again."""
        self.state = State(program, pairs, deed, self.state, ())


def states_behind(state):
    """The list of the states that calls led to, up to a state, in their order."""
    found = []
    while state.past is not None:
        found.append(state)
        state = state.past
    return found[::-1]


def check_many(many, most):
    """Raise an error unless so many calls can be taken back, or done again."""
    if not is_integer(many) or many < 0:
        raise InvalidNumber(many)
    if many > most:
        raise NothingToUndo(many)
