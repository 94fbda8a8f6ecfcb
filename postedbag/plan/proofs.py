"""Proofs: standings that no run can come to more than, shown without going on."""

from postedbag.base.bags import ANY
from postedbag.base.linear import good_point
from postedbag.errors import TooMany
from postedbag.plan.possible import most_of, possible_takes

# So many rows are solved at most, and so many standings are tried, to show something of many standings.
MOST_SOLVED = 6000
MOST_TRIED = 24
MOST_TURNS = 300


def are_shown(program, table, standings, most):
    """Whether more than the most of some standings that are covered are shown to be tops."""
    try:
        takes = possible_takes(program, table)
    except TooMany:
        return False
    tries = max(1, min(MOST_TRIED, MOST_SOLVED // (1 + len(takes))))
    # This stands for ANY: it is far more than what any other entries can be worth.
    huge = most_of(program, takes, [entry for _, bag in standings for entry in bag]) ** 3 * 10 ** 20
    shown = {}
    for at in range(tries):
        standing = standings[(2 * at + 1) * len(standings) // (2 * tries)]
        if standing not in shown:
            weights = weighed(program, takes, standing, huge)
            for other in standings:
                if is_heaviest(other, weights, huge):
                    shown[other] = True
    return len(shown) > most


def are_flat(program, table, standings, most):
    """Whether more than the most of some standings that are covered are tops, for no take makes more tasks of one."""
    try:
        takes = possible_takes(program, table)
    except TooMany:
        return False
    if not all([ANY not in gain and sum(gain) <= 1 for _, _, _, gain in takes]):
        return False
    return len([bag for _, bag in standings if sum(bag) == sum(program.begin)]) > most


def weighed(program, takes, standing, huge):
    """Weights of modes, and of tasks in modes, by which no take makes anything heavier and nothing that is covered is
    heavier than the standing, with a weight of each entry of it but ANY, if there are such weights."""
    mode, bag = standing
    rows = [*start_rows(program), *[row for some in take_rows(takes, huge) for row in some]]
    # The standing need not be heaviest, but with one more of an entry it has to be heavier than anything is.
    row = {(mode, at): -2 * (huge if entry == ANY else entry) for at, entry in enumerate(bag)}
    rows.append({**row, mode: -2, "most": 2, "least": -1})
    rows.extend([{(mode, at): -1, "least": 1} for at, entry in enumerate(bag) if entry != ANY])
    limits = [0] * len(rows) + [1]
    rows.append({"least": 1})
    return solved(rows, limits, {"least": 1})[0]


def start_rows(program):
    """For each start the row that says by how much it is heavier with the begin than the most."""
    rows = []
    for start in program.starts:
        row = {(start, at): many for at, many in enumerate(program.begin)}
        rows.append({**row, start: 1, "most": -1})
    return rows


def take_rows(takes, huge):
    """For each take the row that says by how much it makes things heavier, and for each change of modes the rows that
    say by how much a task that still waits becomes heavier."""
    rows = []
    changes = {}
    for mode, task, end, gain in takes:
        row = {(end, at): huge if entry == ANY else entry for at, entry in enumerate(gain)}
        row[mode, task] = row.get((mode, task), 0) - 1
        if mode != end:
            row[end], row[mode] = 1, -1
            changes[mode, end] = True
        rows.append(row)
    return rows, [{(end, at): 1, (mode, at): -1} for mode, end in changes for at in range(len(takes[0][3]))]


def columns_of(rows):
    """The list of all names in some rows."""
    return list({name: True for row in rows for name in row})


def solved(rows, limits, goal):
    """The point that makes a goal greatest as a dict, and the number it is over; rows and goal are dicts, too."""
    columns = columns_of(rows)
    parts, whole = good_point(
        [[row.get(name, 0) for name in columns] for row in rows],
        limits,
        [goal.get(name, 0) for name in columns],
        MOST_TURNS,
    )
    return dict(list(zip(columns, parts))), whole


def is_heaviest(standing, weights, huge):
    """Whether a standing is heavier than anything that is covered if it has one more of any entry but ANY."""
    mode, bag = standing
    heavy = weights.get(mode, 0)
    heavy += sum([weights.get((mode, at), 0) * (huge if entry == ANY else entry) for at, entry in enumerate(bag)])
    parts = [weights.get((mode, at), 0) for at, entry in enumerate(bag) if entry != ANY]
    return all([heavy + part > weights["most"] for part in parts])
