"""All errors of the program."""


class AskError(ValueError):
    """Something that was passed is not of the form that is asked for."""


class InvalidName(AskError):
    """Not a name."""


class InvalidTable(AskError):
    """Not a table."""


class InvalidDatabase(AskError):
    """Not a database."""


class InvalidRule(AskError):
    """Not a rule."""


class InvalidQuery(AskError):
    """Not a query."""


class InvalidExamples(AskError):
    """Not examples."""


class InvalidOperation(AskError):
    """Something that does not fit to what it is done with."""


class InvalidEdit(AskError):
    """Not an edit of a desk."""


class ParseError(AskError):
    """Not the text of a value."""


class InvalidCommand(AskError):
    """Not a command of a shell."""


class InvalidNumber(IndexError):
    """Not an integer that is allowed at its place; it is kept as `value`."""

    def __init__(self, value):
        self.value = value


class UnknownName(KeyError):
    """Nothing has this name; it is kept as `name`."""

    def __init__(self, name):
        self.name = name


class TooMany(OverflowError):
    """More than a limit allows; the limit is kept as `limit`."""

    def __init__(self, limit):
        self.limit = limit


class NoQuery(ArithmeticError):
    """No query fits, as a keeper shows; it is kept as `keeper`."""

    def __init__(self, keeper):
        self.keeper = keeper


class NothingToUndo(LookupError):
    """There are not so many groups; their number is kept as `many`."""

    def __init__(self, many):
        self.many = many
