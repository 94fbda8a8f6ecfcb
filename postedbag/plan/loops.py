"""Loops: takes that together need no more than they post, so that they could be made for ever."""

from postedbag.base.bags import ANY
from postedbag.base.linear import tableau_of
from postedbag.plan.joins import homes_of

MOST_TURNS = 1500
# With more takes it is not tried to show that there are no loops.
MOST_TAKES = 60


def may_loop(program, takes):
    """Whether some takes, each as often as wanted, could lead from a mode back to it with no less; False if not."""
    # A task of which any number was posted once needs no post any more.
    tasks = [at for at in range(len(program)) if not any([take[3][at] == ANY for take in takes])]
    groups = [takes]
    while groups:
        some = groups.pop()
        if len(some) > MOST_TAKES:
            return True
        used = used_on_loops(program, some, tasks)
        if used is None:
            return True
        parts = parts_of(program, used)
        # Takes in modes that do not lead to one another are on no loop together.
        if len(parts) == 1 and len(parts[0]) == len(some):
            return True
        groups.extend(parts)
    return False


def used_on_loops(program, takes, tasks):
    """The list of those takes that need no more than they post of some tasks, together with others; or None."""
    many = len(takes)
    rows = [[int(take[1] == at) - take[3][at] for take in takes] + [0] * many for at in tasks]
    for mode in range(program.modes):
        rows.append([int(take[0] == mode) - int(take[2] == mode) for take in takes] + [0] * many)
    limits = [0] * len(rows)
    for at in range(many):
        # Whether a take is made at all: at most once, and at most as often as it is made.
        rows.append([-int(index == at) for index in range(many)] + [int(index == at) for index in range(many)])
        rows.append([0] * many + [int(index == at) for index in range(many)])
        limits.extend([0, 1])
    tableau = tableau_of(rows, limits, [0] * many + [1] * many)
    tableau.grow(MOST_TURNS)
    if tableau.can_grow():
        return None
    parts, _ = tableau.point(2 * many)
    return [take for take, part in zip(takes, parts[many:]) if part > 0]


def parts_of(program, takes):
    """The lists of the takes that begin and end in modes that lead to one another by these takes."""
    homes = homes_of(program, takes)
    parts = {}
    for take in takes:
        if homes[take[0]] == homes[take[2]]:
            parts.setdefault(homes[take[0]], []).append(take)
    return list(parts.values())
