"""Uses of ways."""

from postedbag.base.checks import check_bag, check_program
from postedbag.errors import InvalidRun, InvalidUses, TooMany
from postedbag.know.builds import built
from postedbag.know.counts import are_right, posts_in, steps_in
from postedbag.know.grammar import in_order
from postedbag.know.orders import choices_with, uses_with
from postedbag.know.tables import table_of
from postedbag.know.ways import check_way

MOST_CHOICES = 1000


def is_uses(program, way, value):
    """Whether the value is right uses of a way."""
    check_way(program, way)
    return are_right(program, way, value)


def posts_of(program, uses):
    """The bag of the posts of a dict from rules to numbers."""
    check_program(program)
    steps = steps_in(program, uses)
    if steps is None:
        raise InvalidUses("a dict from rules to integers from 1 on is needed")
    return tuple(posts_in(program, steps))


def least_steps(program, way):
    """The least sum of the numbers of uses of a way, or None."""
    check_way(program, way)
    grammar = table_of(program).grammar
    return grammar.steps(way) if grammar.is_good(way) else None


def least_uses(program, way):
    """Uses of a way with the least sum, or None."""
    check_way(program, way)
    grammar = table_of(program).grammar
    if not grammar.is_good(way):
        return None
    uses = {}
    grammar.finish(uses, {way: 1})
    return in_order(uses)


def uses_for(program, way, bag):
    """Uses of a way that post at least a bag, or None."""
    check_way(program, way)
    check_bag(program, bag)
    return built(program, table_of(program), way, bag)


def choices_of(program, way, uses):
    """The choices of a task that goes this way by steps that are just these uses."""
    check_way(program, way)
    if not are_right(program, way, uses):
        raise InvalidUses("right uses of the way are needed")
    if sum(uses.values()) > MOST_CHOICES:
        raise TooMany(MOST_CHOICES)
    return tuple(choices_with(program, way, uses))


def uses_of(program, way, choices):
    """The uses of a way that has these choices."""
    check_way(program, way)
    if not isinstance(choices, tuple) or len(choices) > MOST_CHOICES:
        raise InvalidRun("a tuple of at most 1000 choices is needed")
    uses = uses_with(program, way, choices)
    if uses is None:
        raise InvalidRun("the way does not have these choices")
    return uses
