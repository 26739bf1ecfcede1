"""The errors that the functions of the package raise."""


class TermError(ValueError):
    """Something that was passed is not as it must be."""


class InvalidTerm(TermError):
    """A value is not a term that is allowed here."""


class InvalidPattern(TermError):
    """A value is not a pattern that is allowed here."""


class InvalidProgram(TermError):
    """A value is not a program, or no program can be made."""


class InvalidRun(TermError):
    """A value is not a run of the program."""


class InvalidTable(TermError):
    """A value is not a table of the program."""


class InvalidModel(TermError):
    """A value is not a model, or not a part of one."""


class InvalidOperation(TermError):
    """The values are right, but do not go together."""


class InvalidEdit(TermError):
    """A value is not an edit of a store."""


class ParseError(TermError):
    """A text is not the text of a value."""


class InvalidCommand(TermError):
    """A value is not a command of a shell."""


class InvalidNumber(IndexError):
    """A number is not one of those that are allowed here."""

    def __init__(self, value):
        self.value = value


class UnknownName(KeyError):
    """A name is not one of those that are known here."""

    def __init__(self, name):
        self.name = name


class TooLarge(OverflowError):
    """A result would be greater than the limit."""

    def __init__(self, limit):
        self.limit = limit


class Broken(RuntimeError):
    """The assertion with this index is not kept."""

    def __init__(self, index):
        self.index = index


class NothingToUndo(LookupError):
    """There are not so many groups to undo or to make again."""

    def __init__(self, many):
        self.many = many
