"""Rounds: steps that lead from a way back to itself and post a task."""


def add_rounds(grammar, way, task, uses, many):
    """Put so many rounds of a good way, each of which posts a task, into uses; there are such rounds."""
    back, posting = leading(grammar, way), posting_by(grammar, task)
    came = paths_from(grammar, way, back)
    here, rule, ways, at, branch = fork_of(grammar, task, came, back, posting)
    once, more = {}, {}
    count_step(once, more, rule, ways, (at, branch))
    for step in steps_to(came, here):
        count_step(once, more, step[1], step[2], (step[3],))
    follow(ways[at], back, once, more)
    if branch is not None:
        follow(ways[branch], posting, once, more)
    grammar.finish(once, more)
    for step in once:
        uses[step] = uses.get(step, 0) + once[step] * many


def paths_from(grammar, way, allowed):
    """By each allowed way that a way leads to the last step to it: way ahead, rule, ways behind it, index."""
    came = {way: None}
    waiting = [way]
    while waiting:
        here = waiting.pop()
        for rule, ways in grammar.rules(here):
            for at, other in enumerate(ways):
                if other in allowed and other not in came:
                    came[other] = (here, rule, ways, at)
                    waiting.append(other)
    return came


def steps_to(came, way):
    """The list of the steps to a way, from the last one to the first one."""
    steps = []
    step = came[way]
    while step is not None:
        steps.append(step)
        step = came[step[0]]
    return steps


def leading(grammar, way):
    """By each way that leads to a way the step with which it does so; None for the way itself."""
    return led(grammar, {way: None})


def posting_by(grammar, task):
    """By each way that leads to a post of a task the step with which it does so."""
    return led(grammar, {
        way: (way, rule, ways, None)
        for way in grammar.good()
        for rule, ways in grammar.rules(way)
        if grammar.task(rule) == task
    })


def led(grammar, pointers):
    """The steps by which ways lead to some ways, which have one already."""
    users = grammar.users()
    found = {way: pointers[way] for way in pointers}
    waiting = list(pointers)
    while waiting:
        here = waiting.pop()
        for step in users.get(here, []):
            if step[0] not in found:
                found[step[0]] = step
                waiting.append(step[0])
    return found


def fork_of(grammar, task, came, back, posting):
    """A way, a rule of it, and the indices behind it of what leads back and of what posts, None if the rule does."""
    for here in came:
        for rule, ways in grammar.rules(here):
            for at, other in enumerate(ways):
                if other in back and grammar.task(rule) == task:
                    return here, rule, ways, at, None
                branches = [k for k, way in enumerate(ways) if k != at and way in posting]
                if other in back and branches:
                    return here, rule, ways, at, branches[0]
    return None


def follow(way, pointers, uses, more):
    """Count the steps from a way on, as far as the pointers lead; what stands beside them goes into more."""
    step = pointers[way]
    while step is not None:
        _, rule, ways, at = step
        count_step(uses, more, rule, ways, (at,))
        step = None if at is None else pointers[ways[at]]


def count_step(uses, more, rule, ways, followed):
    """Count a rule, and the ways behind it but those at the indices that are followed."""
    uses[rule] = uses.get(rule, 0) + 1
    for at, way in enumerate(ways):
        if at not in followed:
            more[way] = more.get(way, 0) + 1
