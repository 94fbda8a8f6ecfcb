"""Counts: dicts from rules to how many steps of each there are."""

from postedbag.base.words import is_integer
from postedbag.know.rules import behind_of, has_rule, posted_of, way_of


def are_counts(program, value):
    """Whether the value is a dict from rules to integers from 1 on."""
    if not isinstance(value, dict):
        return False
    if not all([has_rule(program, rule) for rule in value]):
        return False
    return all([is_integer(many) and many >= 1 for many in value.values()])


def are_right(program, way, value):
    """Whether the value is right uses of a way."""
    return are_counts(program, value) and balance(program, way, value) and are_joined(program, way, value)


def balance(program, way, uses):
    """Whether each way has as many steps as how often it stands behind some, and the one of the uses one more."""
    made = {}
    wanted = {way: 1}
    for rule, many in uses.items():
        own = way_of(program, rule)
        made[own] = made.get(own, 0) + many
        for other in behind_of(program, rule):
            wanted[other] = wanted.get(other, 0) + many
    return made == wanted


def are_joined(program, way, uses):
    """Whether each way that has a rule can be come to from the way of the uses."""
    ways = {}
    for rule in uses:
        ways.setdefault(way_of(program, rule), []).append(rule)
    met = {way: True}
    waiting = [way]
    while waiting:
        here = waiting.pop()
        for rule in ways.get(here, []):
            for other in behind_of(program, rule):
                if other not in met:
                    met[other] = True
                    waiting.append(other)
    return all([own in met for own in ways])


def bag_of(program, uses):
    """The bag of the posts of a dict from rules to numbers."""
    names = list(program.names)
    bag = [0] * len(names)
    for rule, many in uses.items():
        name = posted_of(program, rule)
        if name is not None:
            bag[names.index(name)] += many
    return tuple(bag)
