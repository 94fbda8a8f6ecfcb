"""What is covered, and the papers that show it."""

from postedbag.base.bags import fits
from postedbag.base.checks import check_question
from postedbag.know.tables import table_of
from postedbag.plan.covered import covered_of
from postedbag.plan.rows import filled
from postedbag.plan.search import least_row, length_of
from postedbag.plan.takes import end_behind
from postedbag.plan.tops import are_standings, is_bar, is_below


def covers(program, mode, bag):
    """Whether a mode and a bag are covered."""
    check_question(program, mode, bag)
    return covered_of(program).covers(mode, bag)


def least_takes(program, mode, bag):
    """The least number of takes of a plan that ends in the mode with at least the bag, or None."""
    check_question(program, mode, bag)
    covered = covered_of(program)
    if not covered.covers(mode, bag):
        return None
    return length_of(least_row(program, table_of(program), covered, mode, bag)[1])


def cover_paper(program, mode, bag):
    """A plan that ends in the mode with at least the bag, or the tops if there is none."""
    check_question(program, mode, bag)
    covered = covered_of(program)
    if not covered.covers(mode, bag):
        return ("bar", covered.summits)
    table = table_of(program)
    start, row = least_row(program, table, covered, mode, bag)
    return ("plan", start, filled(program, table, row, bag))


def is_cover_paper(program, mode, bag, value):
    """Whether the value is a paper that shows that a mode and a bag are covered, or that they are not."""
    check_question(program, mode, bag)
    if not isinstance(value, tuple) or not value:
        return False
    if value[0] == "plan" and len(value) == 3:
        end = end_behind(program, value[1:])
        return end is not None and end[0] == mode and fits(bag, end[1])
    if value[0] != "bar" or len(value) != 2 or not are_standings(program, value[1]):
        return False
    return not is_below(mode, bag, value[1]) and is_bar(program, value[1])
