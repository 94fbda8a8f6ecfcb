"""Possible takes: at least all takes that runs can make, found without making them."""

from postedbag.base.bags import ANY

# If there are more takes than these, a single one of each way stands for all of them.
MOST_TAKES = 400


def possible_takes(program, table):
    """The list of the tuples (mode, index of the task, mode behind, gain) of takes."""
    takes = [
        (way[2], program.names.index(way[0]), way[3], gain)
        for way in possible_ways(program, table)
        for gain in table.gains(way)
    ]
    return reduced(takes)


def reduced(takes):
    """The takes, or fewer of them that gain at least as much, if there are many."""
    return takes if len(takes) <= MOST_TAKES else merged(takes)


def possible_ways(program, table):
    """The list of the ways of tasks that runs can take, as if no task that waits were ever gone."""
    seen = {start: tuple([many > 0 for many in program.begin]) for start in program.starts}
    found = {}
    waiting = list(program.starts)
    while waiting:
        mode = waiting.pop()
        ways = task_ways(program, mode, seen[mode])
        for way in ways:
            gains = table.gains(way)
            if gains:
                found[way] = True
                now = joined(seen[mode], seen.get(way[3], seen[mode]), gains)
                if now != seen.get(way[3]):
                    seen[way[3]] = now
                    waiting.append(way[3])
    return list(found)


def task_ways(program, mode, there):
    """The ways of those tasks in a mode that are there."""
    return [
        (name, 0, mode, end)
        for at, name in enumerate(program.names)
        if there[at]
        for end in range(program.modes)
    ]


def joined(one, other, gains):
    """Which tasks are there in one case or another, or are gained."""
    return tuple([
        one[at] or other[at] or any([gain[at] != 0 for gain in gains])
        for at in range(len(one))
    ])


def merged(takes):
    """For all takes of one way a single one that gains the most of each task."""
    found = {}
    for mode, task, end, gain in takes:
        known = found.get((mode, task, end), gain)
        found[mode, task, end] = tuple([ANY if ANY in pair else max(pair) for pair in zip(known, gain)])
    return [(*way, found[way]) for way in found]


def most_of(program, takes, more):
    """A number that is more than each entry of the takes and of the begin, and than some more numbers."""
    return 2 + max([*[entry for take in takes for entry in take[3]], *program.begin, *more])
