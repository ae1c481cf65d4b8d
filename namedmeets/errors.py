"""The errors of the package. Each keeps the fields that it was created from, whatever they are."""


class JoinError(ValueError):
    """What all errors of this package are."""


class BadText(JoinError):
    """A text is refused: its first wrong line, and the column there."""

    def __init__(self, line, column):
        self.line = line
        self.column = column


class BadProgram(JoinError):
    """The text of a program is of the right form, but a line of it has this fault."""

    def __init__(self, line, what):
        self.line = line
        self.what = what


class BadValue(JoinError):
    """A value, or a list of values, does not suit the call."""

    def __init__(self, value, why):
        self.value = value
        self.why = why


class BadName(JoinError):
    """A name has not the form of a name."""

    def __init__(self, name):
        self.name = name


class NoName(JoinError):
    """Nothing has this name."""

    def __init__(self, name):
        self.name = name


class TakenName(JoinError):
    """Something has this name already."""

    def __init__(self, name):
        self.name = name


class BadNumber(JoinError):
    """A number does not suit what it is passed for."""

    def __init__(self, what, number):
        self.what = what
        self.number = number


class TooMany(JoinError):
    """There are more of something than the limit allows."""

    def __init__(self, what, many, limit):
        self.what = what
        self.many = many
        self.limit = limit


class BadNet(JoinError):
    """Something is not what a net can do or be."""

    def __init__(self, what):
        self.what = what


class NotKept(JoinError):
    """A promise does not hold, as the witness shows."""

    def __init__(self, promise, witness):
        self.promise = promise
        self.witness = witness


class NothingToUndo(JoinError):
    """No edit is left that could be taken back."""


class NothingToRedo(JoinError):
    """No edit is left that could be done again."""
