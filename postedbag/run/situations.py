"""Situations: their form, and the ones behind one step."""

from postedbag.base.bags import changed
from postedbag.base.checks import is_bag_of, is_mode, is_point, move_at
from postedbag.base.steps import steps_at


def has_form(program, value):
    """Whether the value is a situation of the program by its form."""
    if not isinstance(value, tuple) or len(value) != 4:
        return False
    mode, bag, sites, spot = value
    if not is_mode(program, mode) or not is_bag_of(program, bag) or not isinstance(sites, tuple):
        return False
    if spot is None:
        return not sites
    return is_spot(program, spot) and are_open_calls(program, sites, spot[0])


def is_spot(program, value):
    """Whether the value is a pair of a procedure's name and a point of it."""
    return isinstance(value, tuple) and len(value) == 2 and is_point(program, value[0], value[1])


def are_open_calls(program, sites, name):
    """Whether these are sites of calls, each one in what the one ahead of it calls, the last one a call of a name."""
    called = [called_at(program, site) for site in sites]
    if None in called:
        return False
    # The first site can be one of any procedure, for each one can be the task's.
    return called == [site[0] for site in sites[1:]] + [name] * min(1, len(sites))


def called_at(program, site):
    """The name of the procedure that is called at a site, or None if it is no site of a call."""
    move = move_at(program, site)
    return move[3] if move is not None and move[0] == "call" else None


def next_situations(program, situation):
    """The situations behind one step from a situation that has the form of one."""
    if situation[3] is None:
        return takings(program, situation)
    name, point = situation[3]
    moves = program[name].moves
    steps = steps_at(program[name], point, situation[0])
    return tuple([moved(program, situation, (name, index), moves[index], new) for index, new in steps])


def takings(program, situation):
    """The situations behind the taking of one task."""
    mode, bag, _, _ = situation
    return tuple([
        (mode, changed(bag, at, -1), (), (name, 0))
        for at, name in enumerate(program.names)
        if bag[at] > 0
    ])


def moved(program, situation, site, move, new):
    """The situation behind a move at a site, in the mode behind it."""
    _, bag, sites, _ = situation
    if move[0] == "leave":
        return left(program, new, bag, sites)
    if move[0] == "call":
        return (new, bag, sites + (site,), (move[3], 0))
    if move[0] == "post":
        bag = changed(bag, program.names.index(move[3]), 1)
    return (new, bag, sites, (site[0], move[2]))


def left(program, mode, bag, sites):
    """The situation behind a leave with these open calls."""
    if not sites:
        return (mode, bag, (), None)
    caller = sites[-1]
    return (mode, bag, sites[:-1], (caller[0], program.move(caller)[2]))
