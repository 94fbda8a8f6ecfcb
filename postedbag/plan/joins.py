"""Joins: what some takes can come to, each as often as wanted, and which of them can be made at all.

A take is told by the mode in which it begins, the index of its task, the mode in which it ends, and a gain.
"""


def reached(program, takes, mode, bag):
    """For each mode and for each task whether some takes can come to it from a mode and a wide bag."""
    modes = [other == mode for other in range(program.modes)]
    tasks = [many != 0 for many in bag]
    left = takes
    grown = True
    while grown:
        made = [take for take in left if can_be_made(take, modes, tasks)]
        left = [take for take in left if not can_be_made(take, modes, tasks)]
        for _, _, end, gain in made:
            modes[end] = True
            tasks = [known or many != 0 for known, many in zip(tasks, gain)]
        grown = len(made) > 0
    return modes, tasks


def can_be_made(take, modes, tasks):
    """Whether a take begins in one of some modes, and its task is one of some tasks."""
    return modes[take[0]] and tasks[take[1]]


def stays(take, modes, tasks):
    """Whether a take ends in one of some modes, and posts only some tasks."""
    return modes[take[2]] and all([known or many == 0 for known, many in zip(tasks, take[3])])


def are_joined(program, takes, mode, bag):
    """Whether each of some takes can be made from a mode and a wide bag, if the others can be as often as wanted."""
    modes, tasks = reached(program, takes, mode, bag)
    return all([can_be_made(take, modes, tasks) for take in takes])


def homes_of(program, takes):
    """For each mode the first one of those that lead to it and that it leads to, by some takes."""
    modes = range(program.modes)
    leads = [[one == other for other in modes] for one in modes]
    for mode, _, end, _ in takes:
        leads[mode][end] = True
    for between in modes:
        leads = [[there or (row[between] and on) for there, on in zip(row, leads[between])] for row in leads]
    return [[last for last in modes if leads[first][last] and leads[last][first]][0] for first in modes]
