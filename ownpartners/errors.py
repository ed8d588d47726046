"""The errors of the package. Each one bears its parameters as attributes."""


class BookError(Exception):
    """The base class of all errors of the package."""


class BadKind(BookError):
    """A value that is no kind."""

    def __init__(self, thing):
        self.thing = thing


class BadMark(BookError):
    """A value that is no mark, or no unit, of its kind."""

    def __init__(self, thing):
        self.thing = thing


class BadRow(BookError):
    """A value that is no row as it is asked for."""

    def __init__(self, thing):
        self.thing = thing


class BadRows(BookError):
    """A value that is no tuple of rows as it is asked for."""

    def __init__(self, thing):
        self.thing = thing


class BadLength(BookError):
    """A value that is no length."""

    def __init__(self, thing):
        self.thing = thing


class BadBook(BookError):
    """A value that is no book."""

    def __init__(self, thing):
        self.thing = thing


class BadPlaces(BookError):
    """A value that is no tuple of places as it is asked for."""

    def __init__(self, thing):
        self.thing = thing


class BadChange(BookError):
    """A value that is no change."""

    def __init__(self, thing):
        self.thing = thing


class BadNumber(BookError):
    """A value that is no integer as it is asked for."""

    def __init__(self, thing):
        self.thing = thing


class BadCounts(BookError):
    """A value that is no tuple of counts as it is asked for."""

    def __init__(self, thing):
        self.thing = thing


class BadBooks(BookError):
    """A value that is no tuple of books as it is asked for."""

    def __init__(self, thing):
        self.thing = thing


class BadFamily(BookError):
    """A value that is no family."""

    def __init__(self, thing):
        self.thing = thing


class BadClaim(BookError):
    """A value that is no claim, or a claim that is there already."""

    def __init__(self, thing):
        self.thing = thing


class BadText(BookError):
    """A text that is wrong at a line; 0 stands for a value that is no string."""

    def __init__(self, at):
        self.at = at


class OtherKind(BookError):
    """A book of another kind than is asked for."""

    def __init__(self, thing):
        self.thing = thing


class OtherLength(BookError):
    """A row or a book of another length than is asked for."""

    def __init__(self, thing):
        self.thing = thing


class TooLong(BookError):
    """The rows would have more than 16 marks."""


class TooMany(BookError):
    """There are more than the most that is allowed."""

    def __init__(self, most):
        self.most = most


class NotWhole(BookError):
    """The partner number at a place is no integer, or is below 0."""

    def __init__(self, at):
        self.at = at


class NotNought(BookError):
    """The book does not meet in nought."""

    def __init__(self, certificate):
        self.certificate = certificate


class NotOwn(BookError):
    """The book is not its own partner."""

    def __init__(self, certificate):
        self.certificate = certificate


class NotFourfold(BookError):
    """The book is not fourfold."""

    def __init__(self, certificate):
        self.certificate = certificate


class NotAlike(BookError):
    """The blocks do not meet so many places alike."""

    def __init__(self, certificate):
        self.certificate = certificate


class NoOwn(BookError):
    """There are no own partners of this length."""


class InBook(BookError):
    """The row is in the book."""

    def __init__(self, thing):
        self.thing = thing


class MeetsItself(BookError):
    """The row does not meet itself in 0."""

    def __init__(self, thing):
        self.thing = thing


class HasTwo(BookError):
    """The book has a row of the weight 2."""

    def __init__(self, thing):
        self.thing = thing


class Unkept(BookError):
    """A claim would not be kept."""

    def __init__(self, claim):
        self.claim = claim


class NoClaim(BookError):
    """A value that is no claim of the desk."""

    def __init__(self, thing):
        self.thing = thing


class NothingToUndo(BookError):
    """No deed can be undone."""


class NothingToRedo(BookError):
    """No deed can be done again."""
