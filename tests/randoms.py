"""Programs that are made at random, always the same ones for the same seeds."""

import random

from postedbag.base.programs import Procedure, Program

NAMES = ("p", "q", "r", "s", "t")


def mode_set(source, modes):
    """Some of so many modes, at least one."""
    return tuple(mode for mode in range(modes) if source.random() < 0.6) or (source.randrange(modes),)


def pair_set(source, modes):
    """Some pairs of modes, at least one."""
    return tuple(sorted({(source.randrange(modes), source.randrange(modes)) for _ in range(source.randint(1, 3))}))


def move(source, kind, here, there, name, modes):
    """A move of a kind."""
    if kind == "go":
        return (kind, here, there, pair_set(source, modes))
    if kind == "leave":
        return (kind, here, mode_set(source, modes))
    return (kind, here, there, name, mode_set(source, modes))


def loose(seed, procedures=3, modes=2, points=3, moves=6):
    """A program with moves of all kinds from anywhere to anywhere."""
    source = random.Random(seed)
    modes = source.randint(1, modes)
    names = NAMES[:source.randint(1, procedures)]
    made = []
    for name in names:
        last = source.randint(1, points)
        rows = []
        for _ in range(source.randint(1, moves)):
            kind = source.choice(("go", "go", "call", "post", "post", "leave"))
            here, there = source.randrange(last), source.randrange(last)
            if source.random() < 0.5:
                here, there = min(here, there), max(here, there)
            rows.append(move(source, kind, here, there, source.choice(names), modes))
        if source.random() < 0.8:
            rows.append(("leave", source.randrange(last), mode_set(source, modes)))
        made.append(Procedure(name, last, *rows[:12]))
    return Program(modes, mode_set(source, modes), begin(source, names), *made)


def onward(seed, procedures=4, modes=2, points=4, moves=8, loops=0.08):
    """A program with few loops of moves and few calls back, so that many ways have several finite gains."""
    source = random.Random(seed)
    modes = source.randint(1, modes)
    names = NAMES[:source.randint(1, procedures)]
    made = []
    for at, name in enumerate(names):
        last = source.randint(2, points)
        rows = []
        for _ in range(source.randint(3, moves)):
            kind = source.choice(("go", "call", "post", "post"))
            here = source.randrange(last - 1)
            there = source.randint(here + 1, min(last - 1, here + 2))
            if source.random() < loops:
                there = source.randrange(here + 1)
            other = source.choice(names)
            if kind == "call" and source.random() > loops:
                kind, other = ("call", source.choice(names[at + 1:])) if names[at + 1:] else ("post", other)
            rows.append(move(source, kind, here, there, other, modes))
        rows.append(("leave", last - 1, mode_set(source, modes)))
        made.append(Procedure(name, last, *rows[:12]))
    return Program(modes, mode_set(source, modes), begin(source, names), *made)


def begin(source, names):
    """A small bag."""
    return tuple(source.choice((0, 0, 1, 1, 2, 3)) for _ in names)


def full(seed):
    """A program as large as programs can be."""
    source = random.Random(seed)
    made = []
    for name in NAMES:
        rows = []
        for _ in range(12):
            kind = source.choice(("go", "call", "post", "leave"))
            here, there = source.randrange(6), source.randrange(6)
            rows.append(move(source, kind, here, there, source.choice(NAMES), 5))
        made.append(Procedure(name, 6, *rows))
    return Program(5, mode_set(source, 5), begin(source, NAMES), *made)


def stairs(seed, modes=5):
    """A program as large as programs can be, of which the tasks post many others, in many ways."""
    source = random.Random(seed)
    every = tuple(range(modes))
    made = []
    for at, name in enumerate(NAMES):
        rows = []
        for point in range(5):
            for _ in range(source.choice((1, 2, 2, 3))):
                kind = source.choice(("call", "call", "post", "post", "go") if NAMES[at + 1:] else ("post", "post", "go"))
                if kind == "go":
                    pairs = tuple((mode, (mode + 1) % modes) for mode in every)
                    rows.append((kind, point, point + 1, pairs))
                else:
                    other = source.choice(NAMES[at + 1:] if kind == "call" else NAMES)
                    rows.append((kind, point, point + 1, other, every))
        made.append(Procedure(name, 6, *rows[:11], ("leave", 5, every)))
    return Program(modes, mode_set(source, modes), begin(source, NAMES), *made)
