"""Bars and tops: what everything stays within."""

from postedbag.base.bags import fits
from postedbag.base.checks import check_bag, check_mode, check_program, is_standing
from postedbag.base.words import ascends
from postedbag.errors import InvalidOperation
from postedbag.plan.bars import holds_all
from postedbag.plan.covered import covered_of


def is_bar(program, value):
    """Whether the value is a bar of the program."""
    check_program(program)
    if not are_standings(program, value) or not ascends(value):
        return False
    return holds_all(program, value)


class Tops:
    """The tops of a program."""

    def __init__(self, program):
        check_program(program)
        self._program = program
        self._covered = covered_of(program)

    @property
    def program(self):
        """Its program."""
        return self._program

    @property
    def rows(self):
        """The ascending tuple of the tops."""
        return self._covered.summits

    @property
    def modes(self):
        """The ascending tuple of the modes to which runs come between tasks."""
        return modes_of(self._covered.summits)

    def covers(self, mode, bag):
        """Whether a mode and a bag are covered."""
        check_mode(self._program, mode)
        check_bag(self._program, bag)
        return self._covered.covers(mode, bag)

    def above(self, bar):
        """Whether each top is within a standing of a tuple."""
        if not are_standings(self._program, bar):
            raise InvalidOperation("a tuple of standings of the program is needed")
        return all([is_below(mode, bag, bar) for mode, bag in self._covered.summits])

    def __contains__(self, other):
        return is_standing(self._program, other) and other in self._covered.summits

    def __len__(self):
        return len(self._covered.summits)

    def __eq__(self, other):
        if not isinstance(other, Tops):
            return False
        return self._program == other._program

    def __str__(self):
        return f"{len(self._covered.summits)} tops in {len(modes_of(self._covered.summits))} modes"


def are_standings(program, value):
    """Whether the value is a tuple of standings of the program."""
    return isinstance(value, tuple) and all([is_standing(program, standing) for standing in value])


def modes_of(rows):
    """The ascending tuple of the modes of standings."""
    return tuple(sorted(set([mode for mode, _ in rows])))


def is_below(mode, bag, rows):
    """Whether a mode and a wide bag are within one of some standings."""
    return any([other == mode and fits(bag, wide) for other, wide in rows])
