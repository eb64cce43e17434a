"""The errors of the program: one class for each kind of failure, directly below SamphireError."""


class SamphireError(ValueError):
    """The base class of all errors that the program raises."""


class TextError(SamphireError):
    """A text cannot be read; lines and columns count from 1."""

    def __init__(self, line, column, reason):
        super().__init__(f"line {line}, column {column}: {reason}")
        self.line = line
        self.column = column
        self.reason = reason


class TooLarge(SamphireError):
    """Something is above a limit; the limit is told by a word."""

    def __init__(self, limit):
        super().__init__(f"too large: {limit}")
        self.limit = limit


class InvalidSize(SamphireError):
    """The size of a sample is not one that may be."""

    def __init__(self, size):
        super().__init__(f"not the size of a sample: {size}")
        self.size = size


class SharedKey(SamphireError):
    """Two things that must not have a key in common have one."""

    def __init__(self, key):
        super().__init__(f"kept twice: {key}")
        self.key = key


class SharedPart(SamphireError):
    """Two things that must not have a part in common have one."""

    def __init__(self, part):
        super().__init__(f"part of both: {part}")
        self.part = part


class InvalidPlan(SamphireError):
    """A plan is none; the reason is a word."""

    def __init__(self, reason):
        super().__init__(f"no plan: {reason}")
        self.reason = reason


class UnknownWhat(SamphireError):
    """A question asks for something else than number, weight or amount."""

    def __init__(self, what):
        super().__init__(f"nothing to ask for: {what}")
        self.what = what


class WrongReceiver(SamphireError):
    """A letter cannot go to the node of this name, or is not for the node that takes it."""

    def __init__(self, name):
        super().__init__(f"wrong receiver: {name}")
        self.name = name


class UnknownLetter(SamphireError):
    """No letter with this number is out."""

    def __init__(self, number):
        super().__init__(f"no letter with this number is out: {number}")
        self.number = number


class NoParcel(SamphireError):
    """The number is none of a parcel that can be taken."""

    def __init__(self, number):
        super().__init__(f"no parcel with this number: {number}")
        self.number = number


class InvalidLine(SamphireError):
    """A string is no line that a desk can be given."""

    def __init__(self, line):
        super().__init__(f"not a line: {line}")
        self.line = line


class WrongKind(SamphireError):
    """Samples of different kinds or sizes cannot be put together."""

    def __init__(self):
        super().__init__("samples of different kinds or sizes")


class ZeroDenominator(SamphireError):
    """Something is divided by zero."""

    def __init__(self):
        super().__init__("divided by zero")


class InvalidLaw(SamphireError):
    """Chances are below zero or do not sum up to one."""

    def __init__(self):
        super().__init__("chances below zero, or with another sum than one")


class NotEnded(SamphireError):
    """Something that is still going on must end first."""

    def __init__(self):
        super().__init__("not ended yet")


class EmptyList(SamphireError):
    """A list is empty that must not be."""

    def __init__(self):
        super().__init__("nothing in the list")


class OtherPlan(SamphireError):
    """Two stores have plans that are not equal."""

    def __init__(self):
        super().__init__("the plans are not equal")


class NoDeal(SamphireError):
    """No deal has so many places."""

    def __init__(self):
        super().__init__("no deal of so many places")
