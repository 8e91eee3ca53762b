"""The errors of the package. Each one but ShelfError stands directly under ShelfError."""


class ShelfError(ValueError):
    """The base class of all errors of the package."""


class ZeroBottom(ShelfError):
    """A fraction has the bottom 0, or a number is divided by zero."""


class BadText(ShelfError):
    """A text is not the written form of a fraction."""


class BadLot(ShelfError):
    """A tuple is not a lot of the things in question."""


class NoBuyers(ShelfError):
    """A rule of choice has no buyers at all."""


class NothingToUndo(ShelfError):
    """There is no deed that could be taken back."""


class BadNumber(ShelfError):
    """The number `what` is not allowed, or the one at the place `at` of the list `what`."""

    def __init__(self, what, at):
        self.what = what
        self.at = at


class TooMany(ShelfError):
    """There are `many` things, but at most `most` are allowed."""

    def __init__(self, many, most):
        self.many = many
        self.most = most


class BadWish(ShelfError):
    """A list of wishes names a wrong thing, or one twice."""

    def __init__(self, at):
        self.at = at


class Unlike(ShelfError):
    """Two things that belong together differ in their number of things."""

    def __init__(self, at):
        self.at = at


class BadTable(ShelfError):
    """A table, or its row number `at`, has a wrong form."""

    def __init__(self, at):
        self.at = at


class BadNeed(ShelfError):
    """Need number `at` names a wrong thing, or one twice."""

    def __init__(self, at):
        self.at = at


class NotLists(ShelfError):
    """No lists of wishes give a table: one of its alternating sums, `amount`, is below 0."""

    def __init__(self, lot, thing, amount):
        self.lot = lot
        self.thing = thing
        self.amount = amount


class Unsold(ShelfError):
    """The thing stood on the shelf and was never sold."""

    def __init__(self, thing):
        self.thing = thing


class Crossed(ShelfError):
    """No weights fit the counts: they contradict each other around the ring."""

    def __init__(self, ring):
        self.ring = ring


class BadName(ShelfError):
    """A string is not the name of a thing."""

    def __init__(self, name):
        self.name = name


class KnownName(ShelfError):
    """A thing of this name stands on the desk already."""

    def __init__(self, name):
        self.name = name


class UnknownName(ShelfError):
    """No thing of this name stands on the desk."""

    def __init__(self, name):
        self.name = name


class BadLine(ShelfError):
    """The line with this number cannot be done."""

    def __init__(self, line):
        self.line = line
