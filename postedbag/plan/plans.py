"""Plans: rows of tasks, and what each of them does."""

from postedbag.base.checks import check_program
from postedbag.errors import InvalidPlan, InvalidRun, TooMany
from postedbag.know.orders import choices_with, uses_with
from postedbag.plan.takes import behind_take, copied, end_behind
from postedbag.run.runs import MOST_STEPS, Run


def is_plan(program, value):
    """Whether the value is a plan of the program."""
    check_program(program)
    return end_behind(program, value) is not None


def end_of(program, plan):
    """The pair of the mode and the bag in which a plan ends."""
    check_plan(program, plan)
    return end_behind(program, plan)


def plan_of(run):
    """The plan whose takes are the tasks of a run that is between tasks."""
    if not isinstance(run, Run) or not run.is_between:
        raise InvalidRun("a run that is between tasks is needed")
    situations = run.situations
    ends = [at for at, situation in enumerate(situations) if situation[3] is None]
    takes = []
    for first, last in zip(ends, ends[1:]):
        name = situations[first + 1][3][0]
        mode, end = situations[first][0], situations[last][0]
        # The first choice takes the task, the others are those of its way.
        takes.append((name, end, uses_with(run.program, (name, 0, mode, end), run.choices[first + 1:last])))
    return (run.start, tuple(takes))


def run_of(program, plan):
    """A run whose plan this is."""
    check_plan(program, plan)
    start, takes = plan
    if sum([1 + sum(uses.values()) for _, _, uses in takes]) > MOST_STEPS:
        raise TooMany(MOST_STEPS)
    mode, bag = start, program.begin
    choices = []
    for take in takes:
        name, end, uses = take
        waiting = [other for other, many in zip(program.names, bag) if many > 0]
        choices.append(waiting.index(name))
        choices.extend(choices_with(program, (name, 0, mode, end), uses))
        mode, bag = behind_take(program, mode, bag, take)
    return Run.of(program, start, tuple(choices))


def joined_plans(program, plan, takes):
    """The plan with more takes behind its own ones."""
    check_plan(program, plan)
    if not isinstance(takes, tuple) or not is_plan(program, (plan[0], plan[1] + takes)):
        raise InvalidPlan("the takes do not make a plan behind this one")
    return (plan[0], copied(plan[1] + takes))


def check_plan(program, value):
    """Raise InvalidProgram or InvalidPlan unless the values are a program and a plan of it."""
    if not is_plan(program, value):
        raise InvalidPlan("a plan of the program is needed")
