"""The refusals: one class for each of them, all right under UndivideError."""


class UndivideError(ValueError):
    """Any refusal."""


class BadText(UndivideError):
    """What is no text of a fraction or a reckoning; at is the first row by which it isn't."""

    def __init__(self, at):
        self.at = at


class BadLetters(UndivideError):
    """Letters that aren't one to three unlike names."""


class BadRow(UndivideError):
    """A reckoning whose row at has none of the forms of rows."""

    def __init__(self, at):
        self.at = at


class NoOver(UndivideError):
    """A reckoning whose row at divides by nought."""

    def __init__(self, at):
        self.at = at


class NoName(UndivideError):
    """A name that stands for nothing where it is asked for."""

    def __init__(self, name):
        self.name = name


class TooMany(UndivideError):
    """More than is let by; at tells where."""

    def __init__(self, at):
        self.at = at


class NoPaper(UndivideError):
    """A paper that doesn't show what it should; at is the first row by which it doesn't."""

    def __init__(self, at):
        self.at = at


class BadNode(UndivideError):
    """A net whose node at has none of the forms of nodes."""

    def __init__(self, at):
        self.at = at


class BadWay(UndivideError):
    """A web whose way at has no form of ways."""

    def __init__(self, at):
        self.at = at


class NotWhole(UndivideError):
    """A reckoning that divides, at its row at, where none may."""

    def __init__(self, at):
        self.at = at


class OtherLetters(UndivideError):
    """Two reckonings that haven't the same letters."""


class NotPolynomial(UndivideError):
    """A reckoning, told by which, that comes to no polynomial."""

    def __init__(self, which):
        self.which = which


class NoRow(UndivideError):
    """What is no row that a desk can be told."""
