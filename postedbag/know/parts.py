"""Parts: the ways that lead to one another through rules."""


def parts_from(grammar, way, known):
    """The lists of ways that lead to one another, of all that a way leads to but the known ones; users come last."""
    order = order_from(grammar, way, known)
    users = {own: [] for own in order}
    for own in order:
        for other in followers(grammar, own):
            if other in users:
                users[other].append(own)
    met = {}
    parts = []
    for own in order[::-1]:
        if own not in met:
            parts.append(gathered(users, own, met))
    return parts[::-1]


def followers(grammar, way):
    """The list of the ways that stand directly behind the rules of a good way."""
    return [other for _, ways in grammar.rules(way) for other in ways]


def order_from(grammar, way, known):
    """All ways that a way leads to but the known ones, each behind those that it alone leads to."""
    met = {way: True}
    order = []
    # Of each way on the path to the present one, the ways that have not been looked at yet.
    path = [(way, followers(grammar, way))]
    while path:
        own, left = path[-1]
        if not left:
            order.append(own)
            path.pop()
            continue
        other = left.pop()
        if other not in met and other not in known:
            met[other] = True
            path.append((other, followers(grammar, other)))
    return order


def gathered(users, way, met):
    """The list of the ways that lead to a way and that were not met before."""
    met[way] = True
    found = [way]
    waiting = [way]
    while waiting:
        here = waiting.pop()
        for other in users[here]:
            if other not in met:
                met[other] = True
                found.append(other)
                waiting.append(other)
    return found
