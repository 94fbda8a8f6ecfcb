"""Steps: what a task can do at a point of a procedure, in a mode."""


def modes_behind(move, mode):
    """The modes behind a move that is made in a mode, in their order; none if it cannot be made."""
    if move[0] == "go":
        return [new for old, new in move[3] if old == mode]
    return [mode] if mode in move[-1] else []


def steps_at(procedure, point, mode):
    """The pairs of the index of a move and the mode behind it, in the order of the options."""
    return [
        (index, new)
        for index, move in enumerate(procedure.moves)
        if move[1] == point
        for new in modes_behind(move, mode)
    ]
