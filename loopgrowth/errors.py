"""The errors that this package raises on purpose."""


class LoopError(ValueError):
    """What the errors with a message have in common."""


class InvalidSystem(LoopError):
    """The value is no system."""


class InvalidGraph(LoopError):
    """The value is no graph, or there is no such graph."""


class InvalidRecipe(LoopError):
    """The value is no recipe of this graph, or there is no such recipe."""


class InvalidBalance(LoopError):
    """There is no such balance, or the value is no meeting of it."""


class InvalidOperation(LoopError):
    """The operation is not there for these arguments."""


class InvalidEdit(LoopError):
    """The edit cannot be made."""


class ParseError(LoopError):
    """The text is not that of a value."""


class InvalidCommand(LoopError):
    """The line is no command."""


# The messages below are fixed: a value can have more digits than Python turns into a string.


class InvalidNumber(IndexError):
    """The value is none of the integers that may stand there."""

    def __init__(self, value):
        super().__init__("no integer that may stand here")
        self.value = value


class UnknownName(KeyError):
    """Nothing of this kind has this name."""

    def __init__(self, name):
        super().__init__("nothing has this name here")
        self.name = name


class TooMany(OverflowError):
    """There would be more than the limit."""

    def __init__(self, limit):
        super().__init__("more than the limit")
        self.limit = limit


class NotEnough(ArithmeticError):
    """The counter would fall below 0."""

    def __init__(self, counter):
        super().__init__("a counter would fall below 0")
        self.counter = counter


class NothingToUndo(LookupError):
    """There are not so many steps."""

    def __init__(self, many):
        super().__init__("there are not so many steps")
        self.many = many
