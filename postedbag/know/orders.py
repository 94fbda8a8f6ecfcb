"""Orders: uses as rows of choices, and rows of choices as uses."""

from postedbag.base.steps import steps_at
from postedbag.base.words import is_index
from postedbag.know.grammar import in_order
from postedbag.know.rules import behind_of, choice_of, way_of


def choices_with(program, way, uses):
    """The list of choices of a task that goes this way by just these uses, which are right ones."""
    left = {rule: uses[rule] for rule in uses}
    tables = tables_of(program, uses)
    waiting = [way]
    choices = []
    while waiting:
        rule = picked(program, tables, left, waiting.pop())
        left[rule] -= 1
        choices.append(choice_of(program, rule))
        waiting.extend(behind_of(program, rule)[::-1])
    return choices


def tables_of(program, uses):
    """The rules of each way, and those that each way stands behind."""
    own = {}
    users = {}
    for rule in uses:
        own.setdefault(way_of(program, rule), []).append(rule)
        for way in behind_of(program, rule):
            users.setdefault(way, []).append(rule)
    return own, users


def picked(program, tables, left, way):
    """A rule of the way with which the steps that are left can go on, so that none of them is left in the end."""
    own, users = tables
    rules = [rule for rule in own[way] if left[rule] > 0]
    if len(rules) == 1:
        return rules[0]
    # If the other rules of the way can be needed later, the step has to lead back to the way.
    backs = leading_to(program, users, left, way)
    for rule in rules:
        if any([other in backs for other in behind_of(program, rule)]):
            return rule
    return rules[0]


def leading_to(program, users, left, way):
    """A dict with the ways that lead to a way by steps that are left, and the way itself."""
    met = {way: True}
    waiting = [way]
    while waiting:
        here = waiting.pop()
        for rule in users.get(here, []):
            own = way_of(program, rule)
            if left[rule] > 0 and own not in met:
                met[own] = True
                waiting.append(own)
    return met


def uses_with(program, way, choices):
    """The uses of a way that has just these choices, or None if it does not have them."""
    mode = way[2]
    # The procedures that are open, the outermost one first: their names, their points and their steps.
    frames = [(way[0], way[1], [])]
    uses = {}
    for choice in choices:
        if not frames:
            return None
        steps = steps_at(program[frames[-1][0]], frames[-1][1], mode)
        if not is_index(choice, len(steps)):
            return None
        index, new = steps[choice]
        make_step(program, frames, index, mode, new, uses)
        mode = new
    return in_order(uses) if not frames and mode == way[3] else None


def make_step(program, frames, index, mode, new, uses):
    """Make a step of the last open procedure by its move at an index; count its steps when it is left."""
    name, _, made = frames.pop()
    move = program[name].moves[index]
    kind = move[0]
    if kind == "leave":
        count_all(uses, [rule + (new,) for rule in made])
        count_all(uses, [(kind, name, index, new)])
        close_call(frames, new)
        return
    # The mode in which the procedure is left, the last part of each of these rules, is not known yet.
    made.append((kind, name, index, mode, new) if kind == "go" else (kind, name, index, mode))
    frames.append((name, move[2], made))
    if kind == "call":
        frames.append((move[3], 0, []))


def count_all(uses, rules):
    """Count each of some rules once more."""
    for rule in rules:
        uses[rule] = uses.get(rule, 0) + 1


def close_call(frames, mode):
    """Put the mode in which a called procedure is left into the step of its caller."""
    if frames:
        made = frames[-1][2]
        made[-1] = made[-1] + (mode,)
