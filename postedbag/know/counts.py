"""Counts: dicts from rules to how many steps of each there are."""

from postedbag.base.words import is_integer
from postedbag.know.rules import behind_of, has_rule, posted_of, way_of


def step_of(program, rule):
    """The way of a rule, the ways behind it, and the index of the task that it posts or None; None if it is no rule."""
    steps = program.lore.setdefault("steps", {})
    # True and False are equal to numbers, but no parts of rules.
    if rule in steps and not any([part is True or part is False for part in rule]):
        return steps[rule]
    if not has_rule(program, rule):
        return None
    name = posted_of(program, rule)
    task = None if name is None else program.names.index(name)
    steps[rule] = (way_of(program, rule), behind_of(program, rule), task)
    return steps[rule]


def steps_in(program, value):
    """The list of the steps that a dict from rules to integers from 1 on tells, or None if the value is no such dict.

    Each has its own way, the ways behind it, the index of the task that it posts or None, and its number.
    """
    if not isinstance(value, dict):
        return None
    steps = []
    for rule, many in value.items():
        step = step_of(program, rule)
        if step is None or not is_integer(many) or many < 1:
            return None
        steps.append((*step, many))
    return steps


def are_numbers(values):
    """Whether each of some values is an integer from 1 on."""
    return all([is_integer(many) and many >= 1 for many in values])


def are_right(program, way, value):
    """Whether the value is right uses of a way."""
    return right_posts(program, way, value) is not None


def right_posts(program, way, value):
    """The list of how many tasks of each procedure are posted by right uses of a way, or None if the value is none."""
    steps = steps_in(program, value)
    if steps is None or not are_one_way(way, [(own, behind, many) for own, behind, _, many in steps]):
        return None
    return posts_in(program, steps)


def posts_in(program, steps):
    """The list of how many tasks of each procedure some steps post."""
    posts = [0] * len(program)
    for _, _, task, many in steps:
        if task is not None:
            posts[task] += many
    return posts


def are_one_way(way, steps):
    """Whether some steps balance and are joined: each has its own way, the ways behind it, and a number."""
    return balance(way, steps) and are_joined(way, steps)


def balance(way, steps):
    """Whether each way has as many steps as how often it stands behind some, and the first one one more."""
    made = {}
    wanted = {way: 1}
    for own, behind, many in steps:
        made[own] = made.get(own, 0) + many
        for other in behind:
            wanted[other] = wanted.get(other, 0) + many
    return made == wanted


def are_joined(way, steps):
    """Whether each way that has a step can be come to from the first one."""
    ways = {}
    for own, behind, _ in steps:
        ways.setdefault(own, []).extend(behind)
    met = {way: True}
    waiting = [way]
    while waiting:
        here = waiting.pop()
        for other in ways.get(here, []):
            if other not in met:
                met[other] = True
                waiting.append(other)
    return all([own in met for own in ways])


def bag_of(program, uses):
    """The bag of the posts of a dict from rules to numbers."""
    names = list(program.names)
    bag = [0] * len(names)
    for rule, many in uses.items():
        name = posted_of(program, rule)
        if name is not None:
            bag[names.index(name)] += many
    return tuple(bag)
