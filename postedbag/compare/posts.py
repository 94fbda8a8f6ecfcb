"""Posts left out: without which of them something is not covered any more."""

from postedbag.base.checks import check_program, check_question
from postedbag.base.notes import noted
from postedbag.errors import TooMany
from postedbag.plan.covered import covered_of
from postedbag.plan.lengths import facts_of

MOST_POSTS = 8
# So many programs without some posts, and the cuts of so many modes and bags, are kept with a program.
MOST_HUSHED = 600
MOST_KEPT = 100


def cuts(program, mode, bag):
    """The ascending tuple of the least sets of posts without which a mode and a bag are not covered."""
    check_question(program, mode, bag)
    check_number(program)
    kept = noted(program.notes, "cuts", MOST_KEPT)
    if (mode, bag) not in kept:
        kept[mode, bag] = least_sets(program, lambda other: not covered_of(other).covers(mode, bag))
    return kept[mode, bag]


def is_cut(program, mode, bag, sites):
    """Whether a mode and a bag are not covered without some posts."""
    check_question(program, mode, bag)
    return not covered_of(hushed(program, sites)).covers(mode, bag)


def idle_posts(program):
    """The ascending tuple of the sites of the posts without any single one of which the program covers the same."""
    check_program(program)
    if "idle" not in program.notes:
        tops = covered_of(program).summits
        sites = sorted(program.posts)
        program.notes["idle"] = tuple([site for site in sites if covered_of(hushed(program, (site,))).summits == tops])
    return program.notes["idle"]


def calm_cuts(program):
    """The ascending tuple of the least sets of posts without which rows are not long."""
    check_program(program)
    check_number(program)
    if "calm" not in program.notes:
        program.notes["calm"] = least_sets(program, lambda other: facts_of(other).round is None)
    return program.notes["calm"]


def check_number(program):
    """Raise TooMany if the program has too many posts for all sets of them to be tried."""
    if len(program.posts) > MOST_POSTS:
        raise TooMany(MOST_POSTS)


def hushed(program, sites):
    """The program without some posts; the last ones that were asked for are kept with it."""
    program.check_posts(sites)
    kept = noted(program.notes, "hushed", MOST_HUSHED)
    some = tuple(sorted(set(sites)))
    if some not in kept:
        kept[some] = program.without_posts(some)
    return kept[some]


def least_sets(program, holds):
    """The ascending tuple of the least sets of posts without which something holds of the program."""
    sets = [()]
    for site in sorted(program.posts):
        sets.extend([some + (site,) for some in sets])
    found = []
    # No set comes behind one that has more posts, so what holds without less is known ahead.
    for some in sorted(sets, key=len):
        if not any([are_among(less, some) for less in found]) and holds(hushed(program, some)):
            found.append(some)
    return tuple(sorted(found))


def are_among(sites, others):
    """Whether some sites are all among others."""
    return all([site in others for site in sites])
