"""Searches for rows of as few takes as possible that lead to a mode with at least a bag."""

from postedbag.ask.sides import MOST_TAKES, Back, Fore, Question
from postedbag.errors import TooMany
from postedbag.plan.possible import task_ways


def least_row(program, table, roofs, mode, bag):
    """The start and the list of the takes, as pairs of way and gain, of a least row to what is covered.

    TooMany if it has too many takes.
    """
    question = Question(program, table, roofs, covered_ways(program, table, roofs), (mode, bag))
    back = Back(question)
    fore = Fore(question)
    allowed = 0
    # Each side alone can be lost where the other one is not, and what one shows to be too few is so for both.
    while True:
        lows = [side.lowest() for side in (back, fore) if not side.is_ready(allowed)]
        if None in lows:
            raise TooMany(MOST_TAKES)
        if lows:
            allowed = max(lows)
            continue
        at = back.go_on(allowed)
        if at is not None:
            return told_row(back.trail(at))
        at = fore.go_on(allowed)
        if at is not None:
            return told_row(fore.trail(at)[::-1])


def told_row(trail):
    """The start and the takes of a row that is told by modes and takes, without a take at one of its ends."""
    return trail[0][0], [take for _, take in trail if take is not None]


def covered_ways(program, table, roofs):
    """The pairs of a way of a task and the index of the task, for the tasks that can be taken in each mode."""
    found = []
    for mode, roof in enumerate(roofs):
        there = [roof.covers(single(len(program), at)) for at in range(len(program))]
        ways = task_ways(program, mode, there)
        found.extend([(way, program.names.index(way[0])) for way in ways if table.gains(way)])
    return found


def single(length, at):
    """The bag with one task."""
    return tuple([int(index == at) for index in range(length)])
