"""Rules: one step of a way, and the ways behind it."""

from postedbag.base.checks import is_mode, is_point, move_at
from postedbag.base.steps import modes_behind, steps_at

# How many parts a rule of each kind has.
LENGTHS = {"leave": 4, "go": 6, "post": 5, "call": 6}


def has_way(program, value):
    """Whether the value is a way of the program."""
    if not isinstance(value, tuple) or len(value) != 4 or not is_point(program, value[0], value[1]):
        return False
    return is_mode(program, value[2]) and is_mode(program, value[3])


def has_rule(program, value):
    """Whether the value is a rule of the program."""
    if not isinstance(value, tuple) or len(value) < 4:
        return False
    move = move_at(program, value[1:3])
    if move is None or move[0] != value[0] or len(value) != LENGTHS[move[0]]:
        return False
    if not all([is_mode(program, mode) for mode in value[3:]]):
        return False
    behind = modes_behind(move, value[3])
    return value[4] in behind if move[0] == "go" else len(behind) > 0


def rules_at(program, way):
    """The rules of a way, in the order of the steps."""
    name, point, mode, end = way
    moves = program[name].moves
    found = []
    for index, new in steps_at(program[name], point, mode):
        kind = moves[index][0]
        if kind == "call":
            found.extend([(kind, name, index, mode, k, end) for k in range(program.modes)])
        elif kind == "go":
            found.append((kind, name, index, mode, new, end))
        elif kind == "post":
            found.append((kind, name, index, mode, end))
        elif mode == end:
            found.append((kind, name, index, mode))
    return found


def move_of(program, rule):
    """The move of a rule."""
    return program[rule[1]].moves[rule[2]]


def way_of(program, rule):
    """The way that a rule is one of."""
    return (rule[1], move_of(program, rule)[1], rule[3], rule[-1])


def behind_of(program, rule):
    """The ways behind a rule."""
    kind, name = rule[0], rule[1]
    if kind == "leave":
        return ()
    move = move_of(program, rule)
    if kind == "call":
        return ((move[3], 0, rule[3], rule[4]), (name, move[2], rule[4], rule[5]))
    return ((name, move[2], rule[-2], rule[-1]),)


def posted_of(program, rule):
    """The name of the task that a rule posts, or None."""
    return move_of(program, rule)[3] if rule[0] == "post" else None


def choice_of(program, rule):
    """The index of the option that a rule takes at the point of its way, in its mode."""
    move = move_of(program, rule)
    new = rule[4] if rule[0] == "go" else rule[3]
    return steps_at(program[rule[1]], move[1], rule[3]).index((rule[2], new))


def all_ways(program):
    """All ways of a program, in ascending order."""
    modes = range(program.modes)
    return [
        (name, point, mode, end)
        for name in sorted(program.names)
        for point in range(program[name].points)
        for mode in modes
        for end in modes
    ]
