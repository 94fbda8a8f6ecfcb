"""Bags and wide bags: how many tasks of each procedure wait."""

from postedbag.base.words import is_integer
from postedbag.errors import InvalidBag

ANY = -1

# A bag has one entry for each procedure of a program.
MOST_PROCEDURES = 5


def has_entries(value, low):
    """Whether the value is a tuple of one to five integers from low on."""
    if not isinstance(value, tuple) or not 1 <= len(value) <= MOST_PROCEDURES:
        return False
    return all([is_integer(entry) and entry >= low for entry in value])


def is_bag(value):
    """Whether the value is a bag."""
    return has_entries(value, 0)


def is_wide(value):
    """Whether the value is a wide bag."""
    return has_entries(value, ANY)


def check_pair(one, other):
    """Raise InvalidBag unless both are wide bags of one length."""
    if not is_wide(one) or not is_wide(other):
        raise InvalidBag("two wide bags are needed")
    if len(one) != len(other):
        raise InvalidBag("wide bags of one length are needed")


def check_bags(bags):
    """Raise InvalidBag unless it is a tuple of wide bags of one length."""
    if not isinstance(bags, tuple) or not all([is_wide(bag) for bag in bags]):
        raise InvalidBag("a tuple of wide bags is needed")
    if not all([len(bag) == len(bags[0]) for bag in bags]):
        raise InvalidBag("wide bags of one length are needed")


def fits(one, other):
    """Whether a wide bag is within another one; both are known to be right."""
    return all([most == ANY or 0 <= entry <= most for entry, most in zip(one, other)])


def summed(one, other):
    """The sum of two wide bags of one length; both are known to be right."""
    return tuple([ANY if ANY in pair else sum(pair) for pair in zip(one, other)])


def changed(bag, at, many):
    """The bag with so many more, or less, of the tasks at an index; ANY stays."""
    entry = bag[at]
    return bag[:at] + (entry if entry == ANY else entry + many,) + bag[at + 1:]


def within(one, other):
    """Whether the first wide bag is within the second one."""
    check_pair(one, other)
    return fits(one, other)


def added(one, other):
    """The sum of two wide bags."""
    check_pair(one, other)
    return summed(one, other)


def greatest(bags):
    """The ascending tuple of the bags that are within no other one."""
    check_bags(bags)
    kept = []
    for bag in sorted(set(bags)):
        if not any([fits(bag, other) for other in kept]):
            kept = [other for other in kept if not fits(other, bag)] + [bag]
    return tuple(kept)


def least(bags):
    """The ascending tuple of the bags that no other one is within."""
    check_bags(bags)
    kept = []
    for bag in sorted(set(bags)):
        if not any([fits(other, bag) for other in kept]):
            kept = [other for other in kept if not fits(bag, other)] + [bag]
    return tuple(kept)
