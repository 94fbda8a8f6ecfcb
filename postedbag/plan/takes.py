"""Takes: tasks, how they end, and what they do."""

from postedbag.base.bags import changed, summed
from postedbag.base.checks import is_mode, is_start
from postedbag.know.counts import right_posts
from postedbag.know.grammar import in_order


def behind_take(program, mode, bag, value):
    """The mode and the bag behind a take, or None if the value is no take in this mode and out of this bag."""
    if not isinstance(value, tuple) or len(value) != 3:
        return None
    name, end, uses = value
    if name not in program or not is_mode(program, end):
        return None
    at = program.names.index(name)
    posts = right_posts(program, (name, 0, mode, end), uses) if bag[at] != 0 else None
    return None if posts is None else (end, summed(changed(bag, at, -1), posts))


def end_behind(program, value):
    """The mode and the bag in which a plan ends, or None if the value is no plan."""
    if not isinstance(value, tuple) or len(value) != 2:
        return None
    start, takes = value
    if not is_start(program, start) or not isinstance(takes, tuple):
        return None
    mode, bag = start, program.begin
    for take in takes:
        behind = behind_take(program, mode, bag, take)
        if behind is None:
            return None
        mode, bag = behind
    return (mode, bag)


def copied(takes):
    """The takes with own dicts, in ascending order."""
    return tuple([(name, end, in_order(uses)) for name, end, uses in takes])
