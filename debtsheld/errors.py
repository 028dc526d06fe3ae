"""The errors of the package: each one carries the thing that is invalid."""


class DebtError(Exception):
    """The base class of all errors of the package."""


class BadProgram(DebtError):
    """The thing is not a program."""

    def __init__(self, thing):
        self.thing = thing


class BadText(DebtError):
    """The thing is not a string that is read as a program."""

    def __init__(self, thing):
        self.thing = thing


class BadChecked(DebtError):
    """The thing is a program with a fault."""

    def __init__(self, thing):
        self.thing = thing


class BadWorld(DebtError):
    """The thing is not a world of the program or of the kind."""

    def __init__(self, thing):
        self.thing = thing


class BadNumber(DebtError):
    """The thing is not a number that can be asked for here."""

    def __init__(self, thing):
        self.thing = thing


class BadKind(DebtError):
    """The thing is not a kind."""

    def __init__(self, thing):
        self.thing = thing


class BadName(DebtError):
    """The thing is not the name of a program on the shelf."""

    def __init__(self, thing):
        self.thing = thing


class BadPromise(DebtError):
    """The thing is not a promise."""

    def __init__(self, thing):
        self.thing = thing


class BadDeed(DebtError):
    """The thing is not a deed that can be added to the world."""

    def __init__(self, thing):
        self.thing = thing
