"""Paths: rules that lead to a place, and the ways and paths behind them.

A path is told like a place: by a procedure, a point of it, and a mode.
"""

from postedbag.base.checks import is_mode, is_point, move_at
from postedbag.base.steps import modes_behind, steps_at
from postedbag.know.rules import LENGTHS, behind_of, has_rule, move_of, way_of

# How many parts a path rule of each kind has.
PATH_LENGTHS = {"stop": 4, "go": 5, "post": 4, "pass": 5, "enter": 4}
# The kinds of the moves that path rules tell.
MOVES = {"go": "go", "post": "post", "pass": "call", "enter": "call"}


def has_place(program, value):
    """Whether the value is a place of the program."""
    if not isinstance(value, tuple) or len(value) != 3:
        return False
    return is_point(program, value[0], value[1]) and is_mode(program, value[2])


def has_path_rule(program, place, value):
    """Whether the value is a path rule to a place."""
    if not isinstance(value, tuple) or len(value) < 4 or not isinstance(value[0], str):
        return False
    if value[0] not in PATH_LENGTHS or len(value) != PATH_LENGTHS[value[0]]:
        return False
    if value[0] == "stop":
        return has_place(program, value[1:]) and value[1:] == place
    move = move_at(program, value[1:3])
    if move is None or move[0] != MOVES[value[0]] or not all([is_mode(program, mode) for mode in value[3:]]):
        return False
    behind = modes_behind(move, value[3])
    return value[4] in behind if value[0] == "go" else len(behind) > 0


def has_step(program, place, value):
    """Whether the value is a rule of the program, or a path rule to a place."""
    return has_rule(program, value) or has_path_rule(program, place, value)


def is_of_way(rule):
    """Whether a rule is one of a way; otherwise it is one of a path."""
    return len(rule) == LENGTHS.get(rule[0])


def own_of(program, rule):
    """The way or the path that a rule is one of."""
    if is_of_way(rule):
        return way_of(program, rule)
    if rule[0] == "stop":
        return rule[1:]
    return (rule[1], move_of(program, rule)[1], rule[3])


def all_behind(program, rule):
    """The ways and paths behind a rule."""
    if is_of_way(rule):
        return behind_of(program, rule)
    kind, name = rule[0], rule[1]
    if kind == "stop":
        return ()
    move = move_of(program, rule)
    if kind == "enter":
        return ((move[3], 0, rule[3]),)
    on = (name, move[2], rule[-1])
    return ((move[3], 0, rule[3], rule[4]), on) if kind == "pass" else (on,)


def path_rules_at(program, place, path):
    """The path rules of a path to a place."""
    name, point, mode = path
    moves = program[name].moves
    found = [("stop", *path)] if path == place else []
    for index, new in steps_at(program[name], point, mode):
        kind = moves[index][0]
        if kind == "go":
            found.append((kind, name, index, mode, new))
        elif kind == "post":
            found.append((kind, name, index, mode))
        elif kind == "call":
            found.append(("enter", name, index, mode))
            found.extend([("pass", name, index, mode, k) for k in range(program.modes)])
    return found


def path_rows(program, place):
    """The list of the rows of all paths to a place: the path, a rule of it, and what is behind the rule."""
    return [
        (path, rule, all_behind(program, rule))
        for name in sorted(program.names)
        for point in range(program[name].points)
        for mode in range(program.modes)
        for path in [(name, point, mode)]
        for rule in path_rules_at(program, place, path)
    ]
