"""Procedures and programs."""

from postedbag.base.bags import is_bag
from postedbag.base.moves import MOST_MODES, as_go, is_mode_set, is_move, names_task, renamed_move
from postedbag.base.words import is_index, is_integer, is_name
from postedbag.errors import InvalidOperation, InvalidProgram, UnknownName, UnknownSite

MOST_POINTS = 6
MOST_MOVES = 12


class Procedure:
    """A procedure: its name, the number of its points, and its moves."""

    def __init__(self, called, points, *moves):
        if not is_name(called) or not is_number(points, MOST_POINTS):
            raise InvalidProgram("a procedure has a name and one to six points")
        if not are_moves(moves, points, MOST_MODES):
            raise InvalidProgram("a procedure has at most twelve moves, between its points")
        self._called = called
        self._points = points
        self._moves = moves

    @classmethod
    def of(cls, called, points, moves):
        """The procedure with the moves of a tuple."""
        if not isinstance(moves, tuple):
            raise InvalidProgram("the moves are a tuple")
        return cls(called, points, *moves)

    @property
    def called(self):
        """Its name."""
        return self._called

    @property
    def points(self):
        """The number of its points."""
        return self._points

    @property
    def moves(self):
        """Its moves, in their order."""
        return self._moves

    def __eq__(self, other):
        if not isinstance(other, Procedure):
            return False
        if self._called != other._called or self._points != other._points:
            return False
        return self._moves == other._moves

    def __len__(self):
        return len(self._moves)

    def __str__(self):
        return f"procedure {self._called}, {self._points} points, {len(self._moves)} moves"


class Program:
    """A program: its modes, its starts, its bag at the beginning, and its procedures."""

    def __init__(self, modes, starts, begin, *procedures):
        if not is_number(modes, MOST_MODES) or not is_mode_set(starts, modes):
            raise InvalidProgram("a program has one to five modes, and starts among them")
        # A bag has one to five entries, so this limits the number of the procedures, too.
        if not is_bag(begin) or len(begin) != len(procedures):
            raise InvalidProgram("a program has a bag with an entry for each procedure")
        if not are_procedures(procedures) or not are_joined(procedures, modes):
            raise InvalidProgram("a program has procedures that fit together")
        self._modes = modes
        self._starts = starts
        self._begin = begin
        self._procedures = procedures
        self._names = names_of(procedures)
        # What has been worked out about the program, which never changes, for whoever asks again: all that depends on
        # its modes and procedures alone, and the rest.
        self.lore = {}
        self.notes = {}

    @classmethod
    def of(cls, modes, starts, begin, procedures):
        """The program with the procedures of a tuple."""
        if not isinstance(procedures, tuple):
            raise InvalidProgram("the procedures are a tuple")
        return cls(modes, starts, begin, *procedures)

    @property
    def modes(self):
        """The number of its modes."""
        return self._modes

    @property
    def starts(self):
        """The modes in which runs begin."""
        return self._starts

    @property
    def begin(self):
        """The bag with which runs begin."""
        return self._begin

    @property
    def procedures(self):
        """Its procedures, in their order."""
        return self._procedures

    @property
    def names(self):
        """The names of its procedures, in their order."""
        return self._names

    @property
    def posts(self):
        """The sites of all posts."""
        return sites_of(self._procedures, "post")

    @property
    def calls(self):
        """The sites of all calls."""
        return sites_of(self._procedures, "call")

    def move(self, site):
        """The move at a site."""
        if not self._has_site(site):
            raise UnknownSite(site)
        return self[site[0]].moves[site[1]]

    def with_starts(self, starts):
        """The program with other starts."""
        return self._started(starts, self._begin)

    def with_begin(self, begin):
        """The program with another bag at the beginning."""
        return self._started(self._starts, begin)

    def with_procedure(self, procedure):
        """The program with a procedure in the place of the one of this name, or as the last one."""
        if not isinstance(procedure, Procedure):
            raise InvalidOperation("a procedure is needed")
        if procedure.called not in self:
            return self._remade(self._starts, self._begin + (0,), self._procedures + (procedure,))
        at = self._names.index(procedure.called)
        return self._remade(self._starts, self._begin, put_at(self._procedures, at, (procedure,)))

    def without(self, name):
        """The program without a procedure and without its tasks in the bag."""
        if name not in self:
            raise UnknownName(name)
        at = self._names.index(name)
        return self._remade(self._starts, put_at(self._begin, at, ()), put_at(self._procedures, at, ()))

    def without_posts(self, sites):
        """The program with each post at one of the sites as a go that keeps its modes."""
        self.check_posts(sites)
        procedures = tuple([hushed_procedure(procedure, sites) for procedure in self._procedures])
        return self._remade(self._starts, self._begin, procedures)

    def check_posts(self, sites):
        """Raise UnknownSite unless it is a tuple of sites of posts."""
        if not isinstance(sites, tuple):
            raise UnknownSite(sites)
        for site in sites:
            if self.move(site)[0] != "post":
                raise UnknownSite(site)

    def renamed(self, names):
        """The program with new names for those procedures that a dict has as its keys."""
        if not isinstance(names, dict):
            raise InvalidOperation("a dict of names is needed")
        if not all([name in self and is_name(names[name]) for name in names]):
            raise InvalidOperation("the dict has the names of procedures and new names")
        procedures = tuple([renamed_procedure(procedure, names) for procedure in self._procedures])
        return self._remade(self._starts, self._begin, procedures)

    def __getitem__(self, name):
        if name not in self:
            raise UnknownName(name)
        return self._procedures[self._names.index(name)]

    def __iter__(self):
        raise TypeError("a program cannot be iterated over")

    def __contains__(self, value):
        return value in self._names

    def __len__(self):
        return len(self._procedures)

    def __eq__(self, other):
        if not isinstance(other, Program):
            return False
        if self._modes != other._modes or self._starts != other._starts:
            return False
        return self._begin == other._begin and self._procedures == other._procedures

    def __str__(self):
        return f"program of {len(self._procedures)} procedures, {self._modes} modes"

    def _has_site(self, value):
        """Whether the value is the site of a move."""
        if not isinstance(value, tuple) or len(value) != 2 or value[0] not in self:
            return False
        return is_index(value[1], len(self[value[0]]))

    def _started(self, starts, begin):
        """The program with other starts or another bag at the beginning."""
        made = self._remade(starts, begin, self._procedures)
        made.lore = self.lore
        return made

    def _remade(self, starts, begin, procedures):
        """The program with other parts; InvalidOperation if they make none."""
        try:
            return Program.of(self._modes, starts, begin, procedures)
        except InvalidProgram:
            raise InvalidOperation("the result is no program") from None


def is_number(value, most):
    """Whether the value is an integer from 1 to the most."""
    return is_integer(value) and 1 <= value <= most


def are_moves(values, points, modes):
    """Whether the values of a tuple are the moves of a procedure."""
    return len(values) <= MOST_MOVES and all([is_move(value, points, modes) for value in values])


def are_procedures(values):
    """Whether the values of a tuple are procedures with different names."""
    if not all([isinstance(value, Procedure) for value in values]):
        return False
    return len(set(names_of(values))) == len(values)


def are_joined(procedures, modes):
    """Whether the moves of procedures have these modes and name these procedures only."""
    names = names_of(procedures)
    for procedure in procedures:
        if not are_moves(procedure.moves, procedure.points, modes):
            return False
        if not all([move[3] in names for move in procedure.moves if names_task(move)]):
            return False
    return True


def names_of(procedures):
    """The names of procedures, in their order."""
    return tuple([procedure.called for procedure in procedures])


def sites_of(procedures, kind):
    """The sites of all moves of a kind, in the order of the procedures and of their moves."""
    return tuple([
        (procedure.called, index)
        for procedure in procedures
        for index, move in enumerate(procedure.moves)
        if move[0] == kind
    ])


def put_at(items, at, others):
    """A tuple with others in the place of the item at an index."""
    return items[:at] + others + items[at + 1:]


def hushed_procedure(procedure, sites):
    """The procedure with each post at one of the sites as a go."""
    moves = [
        as_go(move) if (procedure.called, index) in sites else move
        for index, move in enumerate(procedure.moves)
    ]
    return Procedure.of(procedure.called, procedure.points, tuple(moves))


def renamed_procedure(procedure, names):
    """The procedure with new names for itself and for what it calls and posts."""
    called = names.get(procedure.called, procedure.called)
    moves = tuple([renamed_move(move, names) for move in procedure.moves])
    return Procedure.of(called, procedure.points, moves)
