"""The errors of the package."""


class BagError(ValueError):
    """A value that does not have the form that is asked for."""


class InvalidProgram(BagError):
    """No program, or no procedure."""


class InvalidBag(BagError):
    """No bag, or no wide bag."""


class InvalidMode(BagError):
    """No mode of the program."""


class InvalidRun(BagError):
    """No run, or no choices of one."""


class InvalidWay(BagError):
    """No way of the program."""


class InvalidPlace(BagError):
    """No place of the program."""


class InvalidUses(BagError):
    """No uses, or no right ones."""


class InvalidPlan(BagError):
    """No plan of the program."""


class InvalidOperation(BagError):
    """Something that cannot be done with this object."""


class InvalidCommand(BagError):
    """No command of a shell."""


class ParseError(BagError):
    """A line of a text that has no form, or cannot stand where it does."""

    def __init__(self, line):
        self.line = line


class UnknownName(KeyError):
    """A name that is not there."""

    def __init__(self, name):
        self.name = name


class UnknownSite(KeyError):
    """A site that is not there."""

    def __init__(self, site):
        self.site = site


class InvalidNumber(IndexError):
    """A number that is none of those that are asked for."""

    def __init__(self, value):
        self.value = value


class NothingToUndo(LookupError):
    """More calls than can be taken back, or done again."""

    def __init__(self, many):
        self.many = many


class Refused(ArithmeticError):
    """A promise that would not be kept."""

    def __init__(self, name):
        self.name = name


class TooMany(OverflowError):
    """More than the limit of what is worked out."""

    def __init__(self, limit):
        self.limit = limit
