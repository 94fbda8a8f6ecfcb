"""Builds: uses that post at least a bag."""

from heapq import heappop, heappush

from postedbag.base.bags import ANY, fits
from postedbag.know.counts import bag_of
from postedbag.know.grammar import in_order
from postedbag.know.rounds import add_rounds, paths_from, steps_to


def built(program, table, way, bag):
    """Right uses of a way that post at least a bag, or None if there are none."""
    if not table.grammar.is_good(way):
        return None
    uses = {}
    table.grammar.finish(uses, {way: 1})
    if fits(bag, bag_of(program, uses)):
        return in_order(uses)
    gains = [gain for gain in table.gains(way) if fits(bag, gain)]
    if not gains:
        return None
    uses = {}
    put_gain(table, way, gains[0], uses)
    for task, many in enumerate(bag):
        if many and gains[0][task] == ANY:
            home = home_of(table, way, gains[0], task)
            add_rounds(table.grammar, home, task, uses, many)
    return in_order(uses)


def put_gain(table, way, gain, uses):
    """Put uses of a way into uses that post what a gain has, with 0 for ANY."""
    more = {}
    counts = {(way, gain): 1}
    # A part is asked after all parts that lead to it: then it is known how often each of its gains is needed.
    queue = [(-table.part(way).number, way, gain)]
    while queue:
        _, own, bag = heappop(queue)
        origin = table.origin(own, bag)
        many = counts[own, bag]
        if origin is None:
            more[own] = more.get(own, 0) + many
            continue
        last, rule, behind, gains = origin
        put_steps(table, own, last, many, uses, more)
        uses[rule] = uses.get(rule, 0) + many
        for pair in zip(behind, gains):
            if pair not in counts:
                counts[pair] = 0
                heappush(queue, (-table.part(pair[0]).number, *pair))
            counts[pair] += many
    table.grammar.finish(uses, more)


def put_steps(table, way, last, many, uses, more):
    """Count the steps that lead from a way to another one of its part, and what stands beside them."""
    ways = {own: True for own in table.part(way).ways}
    for _, rule, behind, at in steps_to(paths_from(table.grammar, way, ways), last):
        uses[rule] = uses.get(rule, 0) + many
        for index, other in enumerate(behind):
            if index != at:
                more[other] = more.get(other, 0) + many


def home_of(table, way, gain, task):
    """A way that the uses of a gain of a way come to, and of which rounds post a task; the gain has ANY of it."""
    while not table.is_pumped(way, task):
        _, _, behind, gains = table.origin(way, gain)
        at = [index for index, more in enumerate(gains) if more[task] == ANY][0]
        way, gain = behind[at], gains[at]
    return way
