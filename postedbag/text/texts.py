"""The texts of programs."""

from postedbag.base.checks import check_program
from postedbag.base.programs import Procedure, Program
from postedbag.errors import InvalidProgram, ParseError
from postedbag.text.lines import read_first, read_header, read_move, write_first, write_header, write_move


def write_program(program):
    """The text of a program."""
    check_program(program)
    lines = [write_first(program)]
    for procedure in program.procedures:
        lines.append(write_header(procedure))
        lines.extend([write_move(move) for move in procedure.moves])
    return "\n".join(lines)


def read_program(text):
    """The program of a text."""
    if not isinstance(text, str):
        raise InvalidProgram("the text of a program is a string")
    lines = text.split("\n")
    first = read_first(lines[0])
    if first is None:
        raise ParseError(0)
    parts = read_parts(lines)
    modes, starts, begin = first
    procedures = [Procedure.of(called, points, tuple(moves)) for called, points, moves in parts]
    return Program.of(modes, starts, begin, tuple(procedures))


def read_parts(lines):
    """The name, the points and the list of moves of each procedure; ParseError for the first line that is wrong."""
    parts = []
    for index in range(1, len(lines)):
        header = read_header(lines[index])
        if header is not None:
            parts.append((header[0], header[1], []))
            continue
        move = read_move(lines[index])
        if move is None or not parts:
            raise ParseError(index)
        parts[-1][2].append(move)
    return parts
