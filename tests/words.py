"""What the document says, followed word by word and without any haste: the tests compare with it."""

import itertools

from postedbag.base.bags import ANY


def moves_of(program, name):
    """The moves of a procedure."""
    return {procedure.called: procedure.moves for procedure in program.procedures}[name]


def options_by_words(program, situation):
    """[0.12], with one loop for each kind of option."""
    mode, bag, sites, spot = situation
    names = program.names
    if spot is None:
        found = []
        for at, name in enumerate(names):
            if bag[at]:
                rest = list(bag)
                rest[at] -= 1
                found.append((mode, tuple(rest), (), (name, 0)))
        return tuple(found)
    found = []
    for index, move in enumerate(moves_of(program, spot[0])):
        if move[1] != spot[1]:
            continue
        if move[0] == "go":
            for old, new in move[3]:
                if old == mode:
                    found.append((new, bag, sites, (spot[0], move[2])))
        elif move[0] == "call" and mode in move[4]:
            found.append((mode, bag, sites + ((spot[0], index),), (move[3], 0)))
        elif move[0] == "post" and mode in move[4]:
            more = list(bag)
            more[names.index(move[3])] += 1
            found.append((mode, tuple(more), sites, (spot[0], move[2])))
        elif move[0] == "leave" and mode in move[2]:
            if sites:
                name, at = sites[-1]
                found.append((mode, bag, sites[:-1], (name, moves_of(program, name)[at][2])))
            else:
                found.append((mode, bag, (), None))
    return tuple(found)


def ways_by_words(program):
    """All ways, in ascending order."""
    modes = range(program.modes)
    return sorted(
        (procedure.called, point, mode, end)
        for procedure in program.procedures for point in range(procedure.points) for mode in modes for end in modes
    )


def rules_by_words(program):
    """[0.14]: a dict from all rules to their way, the ways behind them, and the task that they post or None."""
    found = {}
    modes = range(program.modes)
    for procedure in program.procedures:
        p = procedure.called
        for j, move in enumerate(procedure.moves):
            x = move[1]
            if move[0] == "leave":
                for m in move[2]:
                    found["leave", p, j, m] = ((p, x, m, m), (), None)
                continue
            y = move[2]
            for n in modes:
                if move[0] == "go":
                    for m, k in move[3]:
                        found["go", p, j, m, k, n] = ((p, x, m, n), ((p, y, k, n),), None)
                elif move[0] == "post":
                    for m in move[4]:
                        found["post", p, j, m, n] = ((p, x, m, n), ((p, y, m, n),), move[3])
                else:
                    for m, k in itertools.product(move[4], modes):
                        behind = ((move[3], 0, m, k), (p, y, k, n))
                        found["call", p, j, m, k, n] = ((p, x, m, n), behind, None)
    return found


def is_below(one, other):
    """[0.17]: whether a wide bag is within another one."""
    return all(most == ANY or 0 <= entry <= most for entry, most in zip(one, other))


def greatest_by_words(bags):
    """The bags that are within no other one."""
    kept = []
    for bag in set(bags):
        if not any(is_below(bag, other) for other in kept):
            kept = [other for other in kept if not is_below(other, bag)] + [bag]
    return sorted(kept)


def capped(bag, cap):
    """The bag with at most the cap of each task, which stands for ANY, too."""
    return tuple(cap if entry == ANY else min(entry, cap) for entry in bag)


def gains_up_to(program, cap):
    """By each way the greatest bags that its uses post, with at most the cap of each task: right up to the cap."""
    rules = rules_by_words(program)
    found = {way: set() for way in ways_by_words(program)}
    changed = True
    while changed:
        changed = False
        for way, behind, name in rules.values():
            sums = {tuple(int(name == other) for other in program.names)}
            for other in behind:
                sums = {capped(map(sum, zip(one, more)), cap) for one in sums for more in found[other]}
            new = set(greatest_by_words(sums | found[way]))
            if new != found[way]:
                found[way] = new
                changed = True
    return found


def steps_up_to(program):
    """By each good way its least number of steps."""
    rules = rules_by_words(program)
    found = {}
    changed = True
    while changed:
        changed = False
        for way, behind, _ in rules.values():
            if all(other in found for other in behind):
                steps = 1 + sum(found[other] for other in behind)
                if steps < found.get(way, steps + 1):
                    found[way] = steps
                    changed = True
    return found


def takes_of(program, gains):
    """All (index of the task, mode, end, gain), for the gains of all ways of tasks."""
    return [
        (at, mode, end, gain)
        for at, name in enumerate(program.names)
        for mode in range(program.modes)
        for end in range(program.modes)
        for gain in gains[name, 0, mode, end]
    ]


def least_by_words(bags):
    """The bags, without ANY, in which no other one is."""
    kept = []
    for bag in set(bags):
        if not any(is_below(other, bag) for other in kept):
            kept = [other for other in kept if not is_below(bag, other)] + [bag]
    return kept


def takes_needed(program, takes, mode, bag, most):
    """The least number of takes to the mode and the bag, None if there is no row, or "more" if it is more than most."""
    needs = {other: [bag] if other == mode else [] for other in range(program.modes)}
    for many in range(most + 1):
        if any(is_below(need, program.begin) for start in program.starts for need in needs[start]):
            return many
        more = {other: list(rows) for other, rows in needs.items()}
        for at, ahead, end, gain in takes:
            for need in needs[end]:
                rest = [0 if entry == ANY else max(0, wanted - entry) for wanted, entry in zip(need, gain)]
                rest[at] += 1
                more[ahead].append(tuple(rest))
        more = {other: sorted(least_by_words(rows)) for other, rows in more.items()}
        if more == {other: sorted(rows) for other, rows in needs.items()}:
            return None
        needs = more
    return "more"
