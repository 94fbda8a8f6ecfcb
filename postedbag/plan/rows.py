"""Rows: takes that lead to a mode and a bag, and what each of them does."""

from postedbag.base.bags import ANY, changed
from postedbag.errors import TooMany
from postedbag.know.builds import built
from postedbag.know.tables import table_of
from postedbag.plan.covered import covered_of
from postedbag.plan.search import MOST_TAKES, least_row


def filled(program, table, row, bag):
    """The takes of a row, with uses that post what the takes behind them and a bag at the end need."""
    takes = []
    known = {}
    for way, gain, many in row[::-1]:
        for _ in range(many):
            posts = tuple([need if more == ANY else min(need, more) for need, more in zip(bag, gain)])
            if (way, posts) not in known:
                known[way, posts] = built(program, table, way, posts)
            uses = known[way, posts]
            takes.append((way[0], way[3], {rule: uses[rule] for rule in uses}))
            rest = tuple([need - post for need, post in zip(bag, posts)])
            bag = changed(rest, program.names.index(way[0]), 1)
    return tuple(takes[::-1])


def row_to_one(program, goals):
    """The index of one of some pairs of a mode and a bag that are covered, and the start and the takes of a row to it.

    TooMany if each of these rows has too many takes.
    """
    table, covered = table_of(program), covered_of(program)
    for at, (mode, bag) in enumerate(goals):
        try:
            start, row = least_row(program, table, covered, mode, bag)
        except TooMany:
            continue
        return at, start, row
    raise TooMany(MOST_TAKES)
