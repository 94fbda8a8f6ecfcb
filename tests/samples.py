"""The document's programs, and values of every kind that can be passed."""

from postedbag.base.programs import Procedure, Program
from postedbag.errors import InvalidBag, InvalidProgram

LEAVE = ("leave", 0, (0,))
JOBS = Program(1, (0,), (1, 0), Procedure("src", 1, ("post", 0, 0, "job", (0,)), LEAVE), Procedure("job", 1, LEAVE))
TREE = Program(
    1, (0,), (1, 0),
    Procedure(
        "tree", 3, LEAVE, ("call", 0, 1, "tree", (0,)), ("post", 1, 2, "job", (0,)), ("leave", 2, (0,)),
    ),
    Procedure("job", 1, LEAVE),
)
OPEN = Procedure("open", 3, ("go", 0, 1, ((0, 1),)), ("post", 1, 2, "work", (1,)), ("leave", 2, (1,)))
WORK = Procedure("work", 2, ("post", 0, 1, "open", (1,)), ("leave", 1, (1,)))
SHUT = Procedure("shut", 2, ("go", 0, 1, ((1, 0),)), ("leave", 1, (0,)))
DOOR = Program(2, (0,), (1, 0, 1), OPEN, WORK, SHUT)

HUGE = 10 ** 40 - 1


def nested(kind, depth):
    """A tuple or list so many deep."""
    value = kind()
    for _ in range(depth - 1):
        value = kind([value])
    return value


def can_be_made(*makes):
    """Whether each of some calls makes a program or a procedure; all of them have to do alike."""
    told = []
    for make in makes:
        try:
            told.append(make() is not None)
        except InvalidProgram as error:
            told.append(type(error) is not InvalidProgram)
    assert len(set(told)) == 1, told
    return told[0]


def odd_values():
    """Values of every kind that [0.4] names; none is a part of a program, a bag or a dict of names."""
    return [
        None, True, False, 0, 1, -1, -2, HUGE, -HUGE,
        "", "A", "Src", "src ", " ", "\n", "toolongword", "a1", "%s {} \\", "a\nb", "(0,)",
        (None,), (True,), (False,), ("src",), ("src", -1), ("src", True), ("src", 0, 0), ("", 0), ((), ()),
        nested(tuple, 12), nested(list, 12), {0: {0: {}}},
        [], [0], [1, 0], [("src", 0)], ["src"], [None], {0: 0}, {"src": 0}, {None: ()}, {(0, 1): [2]},
        OPEN, JOBS, (JOBS,), [OPEN], {"src": OPEN}, InvalidBag("no bag"), (InvalidBag("no bag"),),
    ]
