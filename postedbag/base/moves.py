"""Mode sets and moves: what the procedures of a program are made of."""

from postedbag.base.words import ascends, is_index, is_name

MOST_MODES = 5


def is_mode_set(value, modes):
    """Whether the value is an ascending tuple of at least one of so many modes."""
    if not isinstance(value, tuple) or not value:
        return False
    return all([is_index(mode, modes) for mode in value]) and ascends(value)


def is_pair(value, modes):
    """Whether the value is a pair of modes."""
    if not isinstance(value, tuple) or len(value) != 2:
        return False
    return is_index(value[0], modes) and is_index(value[1], modes)


def is_pair_set(value, modes):
    """Whether the value is an ascending tuple of at least one pair of modes."""
    if not isinstance(value, tuple) or not value:
        return False
    return all([is_pair(pair, modes) for pair in value]) and ascends(value)


def is_move(value, points, modes):
    """Whether the value is a move of a procedure with so many points, in so many modes."""
    if not isinstance(value, tuple) or len(value) < 3 or not is_index(value[1], points):
        return False
    if value[0] == "leave":
        return len(value) == 3 and is_mode_set(value[2], modes)
    if not is_index(value[2], points):
        return False
    if value[0] == "go":
        return len(value) == 4 and is_pair_set(value[3], modes)
    if not names_task(value) or len(value) != 5:
        return False
    return is_name(value[3]) and is_mode_set(value[4], modes)


def names_task(move):
    """Whether a move tells the name of a procedure, which it calls or posts."""
    return move[0] in ("call", "post")


def as_go(post):
    """The go that leads where a post does and keeps each of its modes."""
    return ("go", post[1], post[2], tuple([(mode, mode) for mode in post[4]]))


def renamed_move(move, names):
    """The move with the new name of the procedure that it calls or posts."""
    if not names_task(move):
        return move
    return move[:3] + (names.get(move[3], move[3]), move[4])
