"""Lines: the forms that the lines of a program's text can have."""

from postedbag.base.words import is_name

LONGEST_NUMBER = 40


def is_digits(word, length):
    """Whether a word is of just so many digits."""
    return len(word) == length and all(["0" <= sign <= "9" for sign in word])


def is_number(word):
    """Whether a word is a number of at most forty digits without leading zeros."""
    if not 1 <= len(word) <= LONGEST_NUMBER or not is_digits(word, len(word)):
        return False
    return word == "0" or word[0] != "0"


def are_digits(words, length):
    """Whether there is at least one word, and each is of just so many digits."""
    return len(words) > 0 and all([is_digits(word, length) for word in words])


def numbers_of(words):
    """The tuple of the numbers that the words are."""
    return tuple([int(word) for word in words])


def read_first(line):
    """The modes, the starts and the begin of a first line, or None if it has not this form."""
    words = line.split(" ")
    if len(words) < 6 or words[0] != "modes" or words[2] != "starts" or "begin" not in words:
        return None
    at = words.index("begin")
    starts, begin = words[3:at], words[at + 1:]
    if not is_digits(words[1], 1) or not are_digits(starts, 1):
        return None
    if not begin or not all([is_number(word) for word in begin]):
        return None
    return (int(words[1]), numbers_of(starts), numbers_of(begin))


def read_header(line):
    """The name and the number of points of a procedure's line, or None if it has not this form."""
    words = line.split(" ")
    if len(words) != 3 or words[0] != "procedure" or not is_name(words[1]) or not is_digits(words[2], 1):
        return None
    return (words[1], int(words[2]))


def read_move(line):
    """The move of a line, or None if it has not this form."""
    if not line.startswith("  "):
        return None
    words = line[2:].split(" ")
    if words[0] == "leave":
        return read_leave(words)
    if len(words) < 5 or not are_digits(words[1:3], 1):
        return None
    here, there = numbers_of(words[1:3])
    if words[0] == "go" and words[3] == "by" and are_digits(words[4:], 2):
        return ("go", here, there, tuple([numbers_of(word) for word in words[4:]]))
    if words[0] in ("call", "post") and is_name(words[3]) and words[4] == "in" and are_digits(words[5:], 1):
        return (words[0], here, there, words[3], numbers_of(words[5:]))
    return None


def read_leave(words):
    """The leave that is told by the words of a line, or None if they do not have this form."""
    if len(words) < 4 or not is_digits(words[1], 1) or words[2] != "in" or not are_digits(words[3:], 1):
        return None
    return ("leave", int(words[1]), numbers_of(words[3:]))


def told(numbers):
    """The text of numbers, with one blank between them."""
    return " ".join([str(number) for number in numbers])


def write_first(program):
    """The first line of the text of a program."""
    return f"modes {program.modes} starts {told(program.starts)} begin {told(program.begin)}"


def write_header(procedure):
    """The line of a procedure."""
    return f"procedure {procedure.called} {procedure.points}"


def write_move(move):
    """The line of a move."""
    if move[0] == "leave":
        return f"  leave {move[1]} in {told(move[2])}"
    if move[0] == "go":
        pairs = " ".join([f"{old}{new}" for old, new in move[3]])
        return f"  go {move[1]} {move[2]} by {pairs}"
    return f"  {move[0]} {move[1]} {move[2]} {move[3]} in {told(move[4])}"
