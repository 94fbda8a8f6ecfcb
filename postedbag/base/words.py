"""Names, integers and order: the smallest parts of all values."""

LONGEST_NAME = 8


def is_name(value):
    """Whether the value is a string of one to eight letters a to z."""
    if not isinstance(value, str) or not 1 <= len(value) <= LONGEST_NAME:
        return False
    return all(["a" <= letter <= "z" for letter in value])


def is_integer(value):
    """Whether the value is an integer; True and False are none."""
    return isinstance(value, int) and not isinstance(value, bool)


def is_index(value, many):
    """Whether the value is an integer from 0 on that is less than many."""
    return is_integer(value) and 0 <= value < many


def ascends(items):
    """Whether each item of a tuple is less than the next one."""
    return all([items[at] < items[at + 1] for at in range(len(items) - 1)])
