"""Spots: what can wait while a task is at a place."""

from postedbag.base.bags import ANY, changed, fits
from postedbag.base.notes import noted
from postedbag.base.packs import Packing
from postedbag.errors import TooMany
from postedbag.know.roads import roads_to
from postedbag.plan.covered import covered_of

MOST_BAGS = 400
# The bags of so many places are kept with a program.
MOST_KEPT = 200


def bags_at(program, place):
    """The ascending tuple of the greatest wide bags that can wait while a task is at a place."""
    kept = noted(program.notes, "bags", MOST_KEPT)
    if place not in kept:
        kept[place] = worked_out(program, place)
    if kept[place] is None:
        raise TooMany(MOST_BAGS)
    return kept[place]


def worked_out(program, place):
    """The greatest wide bags, or None if there are too many of them, or of what they are made of."""
    try:
        rows = rests_and_gains(program, place)
    except TooMany:
        return None
    entries = [entry for rests, gains in rows for bag in [*rests, *gains] for entry in bag]
    packing = Packing(len(program), 2 * max(entries, default=0))
    found = {}
    for rests, gains in rows:
        more = [packing.packed(gain) for gain in gains]
        for rest in rests:
            code = packing.packed(rest)
            found.update({packing.normal(code + other): True for other in more})
    codes = packing.highest(list(found), MOST_BAGS)
    return None if codes is None else tuple(sorted([packing.unpacked(code) for code in codes]))


def rests_and_gains(program, place):
    """For each task that is taken in a mode the tops without it, and the gains of its path."""
    tops = covered_of(program).summits
    roads = roads_to(program, place)
    rows = []
    for mode in range(program.modes):
        for at, name in enumerate(program.names):
            rests = [changed(bag, at, -1) for other, bag in tops if other == mode and bag[at] != 0]
            gains = roads.path_gains((name, 0, mode)) if rests else ()
            if gains:
                rows.append((rests, gains))
    return rows


def goals_before(program, place, bag):
    """The list of what has to be covered so that a task comes to a place while at least a bag waits.

    Each is a mode, a bag, the name of the task that is taken there, and a gain of its path; the bag has the task.
    """
    covered = covered_of(program)
    roads = roads_to(program, place)
    found = []
    for mode in range(program.modes):
        for at, name in enumerate(program.names):
            one = tuple([int(index == at) for index in range(len(bag))])
            if covered.covers(mode, one):
                for gain in roads.path_gains((name, 0, mode)):
                    rest = [0 if more == ANY else max([0, many - more]) for many, more in zip(bag, gain)]
                    found.append((mode, changed(tuple(rest), at, 1), name, gain))
    goals = [goal for goal in found if covered.covers(goal[0], goal[1])]
    return sorted(goals, key=lambda goal: sum(goal[1]))


def is_at_place(program, place, bag, rows):
    """Whether a task can be taken in one of some standings, and come to a place while at least a bag waits.

    TooMany, if some path has too many gains, comes behind all that is seen by the others.
    """
    roads = roads_to(program, place)
    beyond = None
    for mode, wide in rows:
        for at, name in enumerate(program.names):
            if wide[at] == 0:
                continue
            rest = changed(wide, at, -1)
            # What the path itself has to post.
            missing = tuple([0 if more == ANY else max([0, many - more]) for many, more in zip(bag, rest)])
            try:
                gains = roads.path_gains((name, 0, mode))
            except TooMany as error:
                beyond = error.limit
                continue
            if any([fits(missing, gain) for gain in gains]):
                return True
    if beyond is not None:
        raise TooMany(beyond)
    return False
