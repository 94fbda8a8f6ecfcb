"""Places within tasks, and what can wait while a task is there."""

from postedbag.base.bags import ANY, changed, fits, summed
from postedbag.base.checks import check_bag, check_mode, check_program
from postedbag.errors import InvalidPlace, TooMany, UnknownName
from postedbag.know.builds import built
from postedbag.know.counts import are_numbers, are_one_way, bag_of
from postedbag.know.paths import all_behind, has_place, has_step, own_of
from postedbag.know.roads import roads_to
from postedbag.know.tables import table_of
from postedbag.plan.covered import covered_of
from postedbag.plan.rows import filled, row_to_one
from postedbag.plan.spots import bags_at, goals_before, is_at_place
from postedbag.plan.takes import end_behind
from postedbag.plan.tops import are_standings, is_bar


def is_place(program, value):
    """Whether the value is a place of the program."""
    check_program(program)
    return has_place(program, value)


def path_gains(program, name, mode, place):
    """The ascending tuple of the gains of the path of a task in a mode to a place."""
    check_program(program)
    if name not in program:
        raise UnknownName(name)
    check_mode(program, mode)
    check_place(program, place)
    return roads_to(program, place).path_gains((name, 0, mode))


def place_covers(program, place, bag):
    """Whether a run comes to a place while at least a bag waits."""
    check_spot(program, place, bag)
    return any([fits(bag, wide) for wide in bags_at(program, place)])


def place_tops(program, place):
    """The ascending tuple of the greatest wide bags with which runs come to a place."""
    check_program(program)
    check_place(program, place)
    return bags_at(program, place)


def is_path_uses(program, place, path, value):
    """Whether the value is right uses of a path to a place."""
    check_program(program)
    check_place(program, place)
    check_place(program, path)
    return are_path_uses(program, place, path, value)


def place_paper(program, place, bag):
    """A paper that shows that runs come to a place while at least a bag waits, or that they do not."""
    check_spot(program, place, bag)
    if not any([fits(bag, wide) for wide in bags_at(program, place)]):
        return ("bar", covered_of(program).summits)
    goals = goals_before(program, place, bag)
    at, start, row = row_to_one(program, [goal[:2] for goal in goals])
    mode, needed, name, gain = goals[at]
    takes = filled(program, table_of(program), row, needed)
    posts = tuple([many if more == ANY else min(many, more) for many, more in zip(bag, gain)])
    return ("plan", start, takes, name, built(program, roads_to(program, place), (name, 0, mode), posts))


def is_place_paper(program, place, bag, value):
    """Whether the value is a paper that shows that runs come to a place with a bag, or that they do not."""
    check_spot(program, place, bag)
    if not isinstance(value, tuple) or not value:
        return False
    if value[0] == "plan" and len(value) == 5:
        return shows_place(program, place, bag, value)
    if value[0] != "bar" or len(value) != 2 or not are_standings(program, value[1]):
        return False
    try:
        if is_at_place(program, place, bag, value[1]):
            return False
    except TooMany:
        if not is_bar(program, value[1]):
            return False
        raise
    return is_bar(program, value[1])


def shows_place(program, place, bag, value):
    """Whether a plan, a task and uses of its path lead to a place with at least a bag."""
    _, start, takes, name, uses = value
    end = end_behind(program, (start, takes))
    if end is None or name not in program:
        return False
    mode, waiting = end
    at = program.names.index(name)
    if waiting[at] == 0 or not are_path_uses(program, place, (name, 0, mode), uses):
        return False
    return fits(bag, summed(changed(waiting, at, -1), bag_of(program, uses)))


def are_path_uses(program, place, path, value):
    """Whether the value is a dict from rules and path rules to numbers that balances and is joined."""
    if not isinstance(value, dict) or not all([has_step(program, place, rule) for rule in value]):
        return False
    if not are_numbers(list(value.values())):
        return False
    return are_one_way(path, [(own_of(program, rule), all_behind(program, rule), value[rule]) for rule in value])


def check_place(program, value):
    """Raise InvalidPlace unless the value is a place of the program."""
    if not has_place(program, value):
        raise InvalidPlace("a place of the program is needed")


def check_spot(program, place, bag):
    """Raise the error of the first one that is no program, no place or no bag of it."""
    check_program(program)
    check_place(program, place)
    check_bag(program, bag)
