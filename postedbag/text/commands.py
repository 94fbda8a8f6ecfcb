"""Commands: the forms that the words of a shell's commands can have."""

from postedbag.base.words import ascends, is_name
from postedbag.text.lines import is_digits, is_number

# The commands by their first word: how many names of programs follow, and the form of what comes behind these.
FORMS = {
    "new": (1, "end"),
    "copy": (2, "end"),
    "drop": (1, "end"),
    "hush": (1, "sites"),
    "start": (1, "modes"),
    "begin": (1, "bag"),
    "text": (1, "end"),
    "covers": (1, "standing"),
    "takes": (1, "standing"),
    "place": (1, "spot"),
    "most": (1, "task"),
    "piles": (1, "end"),
    "length": (1, "end"),
    "idle": (1, "end"),
    "more": (2, "end"),
}


def read_command(command):
    """The first word of a command, the list of the names of programs, and the list of what follows; None if none."""
    if not isinstance(command, str):
        return None
    head, newline, text = command.partition("\n")
    words = head.split(" ")
    # Only a new program has lines below.
    if words[0] not in FORMS or (words[0] == "new") != (newline != ""):
        return None
    many, form = FORMS[words[0]]
    names = words[1:many + 1]
    told = read_told(form, words[many + 1:])
    if len(names) != many or not all([is_name(name) for name in names]) or told is None:
        return None
    return words[0], names, [text] if words[0] == "new" else told


def read_told(form, words):
    """The list of the values that words of a form tell, or None if they have not this form."""
    if form == "end":
        return [] if not words else None
    if form == "task":
        return words if len(words) == 1 and is_name(words[0]) else None
    if form == "sites":
        return read_sites(words)
    if form == "modes":
        modes = read_bag(words) if all([is_short(word) for word in words]) else None
        return modes if modes is not None and ascends(modes[0]) else None
    if form == "bag":
        return read_bag(words)
    if form == "standing":
        return read_standing(words)
    # A spot: a task, a point, a mode and a bag.
    if len(words) < 4 or not is_name(words[0]) or not is_short(words[1]):
        return None
    told = read_standing(words[2:])
    return None if told is None else [(words[0], int(words[1]), told[0]), told[1]]


def read_sites(words):
    """The list of the tuple of the sites that words tell, or None."""
    pairs = list(zip(words[::2], words[1::2]))
    if not pairs or len(words) != 2 * len(pairs):
        return None
    if not all([is_name(name) and is_short(index) for name, index in pairs]):
        return None
    return [tuple([(name, int(index)) for name, index in pairs])]


def read_bag(words):
    """The list of the tuple of at least one number, or None."""
    if not words or not all([is_number(word) for word in words]):
        return None
    return [tuple([int(word) for word in words])]


def read_standing(words):
    """The list of the mode and the bag that words tell, or None."""
    if not words or not is_short(words[0]):
        return None
    bag = read_bag(words[1:])
    return None if bag is None else [int(words[0]), *bag]


def is_short(word):
    """Whether a word is a number of at most two digits without leading zeros."""
    return is_digits(word, 1) or (is_digits(word, 2) and word[0] != "0")
