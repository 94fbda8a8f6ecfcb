"""Counts: dicts from rules to how many steps of each there are."""

from postedbag.base.words import is_integer
from postedbag.know.rules import behind_of, has_rule, posted_of, way_of


def are_counts(program, value):
    """Whether the value is a dict from rules to integers from 1 on."""
    if not isinstance(value, dict):
        return False
    if not all([has_rule(program, rule) for rule in value]):
        return False
    return are_numbers(list(value.values()))


def are_numbers(values):
    """Whether each of some values is an integer from 1 on."""
    return all([is_integer(many) and many >= 1 for many in values])


def are_right(program, way, value):
    """Whether the value is right uses of a way."""
    if not are_counts(program, value):
        return False
    return are_one_way(way, [(way_of(program, rule), behind_of(program, rule), value[rule]) for rule in value])


def are_one_way(way, steps):
    """Whether some steps balance and are joined: each has its own way, the ways behind it, and a number."""
    return balance(way, steps) and are_joined(way, steps)


def balance(way, steps):
    """Whether each way has as many steps as how often it stands behind some, and the first one one more."""
    made = {}
    wanted = {way: 1}
    for own, behind, many in steps:
        made[own] = made.get(own, 0) + many
        for other in behind:
            wanted[other] = wanted.get(other, 0) + many
    return made == wanted


def are_joined(way, steps):
    """Whether each way that has a step can be come to from the first one."""
    ways = {}
    for own, behind, _ in steps:
        ways.setdefault(own, []).extend(behind)
    met = {way: True}
    waiting = [way]
    while waiting:
        here = waiting.pop()
        for other in ways.get(here, []):
            if other not in met:
                met[other] = True
                waiting.append(other)
    return all([own in met for own in ways])


def bag_of(program, uses):
    """The bag of the posts of a dict from rules to numbers."""
    names = list(program.names)
    bag = [0] * len(names)
    for rule, many in uses.items():
        name = posted_of(program, rule)
        if name is not None:
            bag[names.index(name)] += many
    return tuple(bag)
