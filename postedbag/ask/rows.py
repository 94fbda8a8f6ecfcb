"""Long rows, and how many takes rows can have otherwise."""

from postedbag.base.bags import changed, fits, is_wide, summed
from postedbag.base.checks import check_program, is_mode, is_standing, is_start
from postedbag.base.words import ascends, is_index, is_integer
from postedbag.errors import InvalidNumber, TooMany
from postedbag.know.tables import table_of
from postedbag.plan.lengths import facts_of
from postedbag.plan.rows import filled

MOST_TAKES = 60


def are_long(program):
    """Whether there is no greatest number of takes of rows."""
    check_program(program)
    return facts_of(program).round is not None


def greatest_length(program):
    """The greatest number of takes of rows, or None if there is none."""
    check_program(program)
    return facts_of(program).length


def row_paper(program):
    """A paper that shows that rows are long, or how many takes they have at most."""
    check_program(program)
    facts = facts_of(program)
    if "row paper" not in program.notes:
        program.notes["row paper"] = told_paper(facts)
    return program.notes["row paper"]


def told_paper(facts):
    """The paper that tells what is known of the rows of a program."""
    if facts.round is None:
        lengths = facts.table()
        table = sorted([(facts.ground.standing(*standing), lengths[standing]) for standing in lengths])
        return ("short", facts.length, tuple(table))
    row, at = facts.round
    takes = facts.takes_along(row)
    return ("long", row[0][0], takes[:at], takes[at:])


def is_row_paper(program, value):
    """Whether the value is a paper that shows that rows are long, or how many takes they have at most."""
    check_program(program)
    if not isinstance(value, tuple) or not value:
        return False
    if value[0] == "long" and len(value) == 4:
        _, start, first, part = value
        return shows_long(program, start, first, part)
    if value[0] != "short" or len(value) != 3 or not is_ranked(program, value[1], value[2]):
        return False
    return shows_short(program, value[2])


def long_plan(program, many):
    """A plan with just so many takes, or None."""
    check_program(program)
    if not is_index(many, MOST_TAKES + 1):
        raise InvalidNumber(many)
    facts = facts_of(program)
    if facts.length is not None and many > facts.length:
        return None
    start, takes = facts.first_takes(many)
    row = []
    mode = start
    for name, end, gain in takes:
        row.append(((name, 0, mode, end), gain, 1))
        mode = end
    return (start, filled(program, table_of(program), row, (0,) * len(program)))


def shows_long(program, start, first, part):
    """Whether gainful takes lead from a start to a standing, and from there to one within which it is."""
    if not is_start(program, start) or not are_takes(program, first) or not are_takes(program, part) or not part:
        return False
    middle = behind_takes(program, (start, program.begin), first)
    end = None if middle is None else behind_takes(program, middle, part)
    if end is None or end[0] != middle[0] or not fits(middle[1], end[1]):
        return False
    return are_gained(program, start, first + part)


def are_takes(program, value):
    """Whether the value is a tuple of gainful takes by their form: a task, a mode, and a wide bag."""
    return isinstance(value, tuple) and all([is_take(program, take) for take in value])


def is_take(program, value):
    """Whether the value is a gainful take by its form."""
    if not isinstance(value, tuple) or len(value) != 3 or value[0] not in program:
        return False
    return is_mode(program, value[1]) and is_wide(value[2]) and len(value[2]) == len(program)


def behind_takes(program, standing, takes):
    """The standing behind some gainful takes, or None if some task is not there."""
    mode, bag = standing
    for name, end, gain in takes:
        at = program.names.index(name)
        if bag[at] == 0:
            return None
        mode, bag = end, summed(changed(bag, at, -1), gain)
    return (mode, bag)


def are_gained(program, start, takes):
    """Whether the bag of each gainful take is within a gain of its way; TooMany comes behind what is seen otherwise."""
    table = table_of(program)
    beyond = None
    mode = start
    for name, end, bag in takes:
        try:
            if not any([fits(bag, gain) for gain in table.gains((name, 0, mode, end))]):
                return False
        except TooMany as error:
            beyond = error.limit
        mode = end
    if beyond is not None:
        raise TooMany(beyond)
    return True


def is_ranked(program, number, table):
    """Whether the table is an ascending tuple of pairs of a standing and an integer up to a number, one for each."""
    if not is_integer(number) or not isinstance(table, tuple):
        return False
    for row in table:
        if not isinstance(row, tuple) or len(row) != 2 or not is_standing(program, row[0]):
            return False
        if not is_index(row[1], number + 1):
            return False
    return ascends(tuple([row[0] for row in table]))


def shows_short(program, table):
    """Whether all rows stay within the standings of a table, and each take leads to a less integer."""
    ranks = {standing: rank for standing, rank in table}
    for start in program.starts:
        if not is_ranked_below(ranks, (start, program.begin), max(list(ranks.values()), default=0) + 1):
            return False
    gains = table_of(program)
    beyond = None
    for mode, bag in ranks:
        for way, at in ways_from(program, mode, bag):
            rest = changed(bag, at, -1)
            try:
                found = [(way[3], summed(rest, gain)) for gain in gains.gains_over(way, bag)]
            except TooMany as error:
                beyond = error.limit
                continue
            if not all([is_ranked_below(ranks, behind, ranks[mode, bag]) for behind in found]):
                return False
    if beyond is not None:
        raise TooMany(beyond)
    return True


def ways_from(program, mode, bag):
    """The list of the ways of the tasks that are in a bag, in a mode, with the indices of the tasks."""
    return [
        ((name, 0, mode, end), at)
        for at, name in enumerate(program.names)
        if bag[at] != 0
        for end in range(program.modes)
    ]


def is_ranked_below(ranks, standing, rank):
    """Whether a standing is within one that has a less integer than a rank."""
    if standing in ranks and ranks[standing] < rank:
        return True
    mode, bag = standing
    return any([ranks[other] < rank and other[0] == mode and fits(bag, other[1]) for other in ranks])
