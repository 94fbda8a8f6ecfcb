"""Promises about programs."""

from postedbag.ask.covers import covers
from postedbag.ask.piles import most_waiting
from postedbag.ask.places import is_place, place_covers
from postedbag.ask.rows import greatest_length
from postedbag.base.bags import ANY
from postedbag.base.checks import is_bag_of, is_mode
from postedbag.base.words import is_integer


def is_promise(program, parts):
    """Whether the parts are a promise about a program."""
    if not isinstance(parts, tuple) or not parts:
        return False
    kind, told = parts[0], parts[1:]
    if kind == "short":
        return not told
    if kind == "away":
        return len(told) == 1 and is_place(program, told[0])
    if len(told) != 2:
        return False
    if kind == "atmost":
        return told[0] in program and is_integer(told[1]) and told[1] >= 0
    return kind in ("reached", "barred") and is_mode(program, told[0]) and is_bag_of(program, told[1])


def is_kept(program, parts):
    """Whether the parts are a promise about a program, and true."""
    if not is_promise(program, parts):
        return False
    kind = parts[0]
    if kind == "short":
        return greatest_length(program) is not None
    if kind == "away":
        return not place_covers(program, parts[1], (0,) * len(program))
    if kind == "atmost":
        most = most_waiting(program, parts[1])
        return most != ANY and most <= parts[2]
    return covers(program, parts[1], parts[2]) == (kind == "reached")
