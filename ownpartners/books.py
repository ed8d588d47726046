"""Books: tuples (kind, length, plain basis)."""

from ownpartners.checks import check_kind, check_length, is_kind, is_length
from ownpartners.errors import BadBook, BadRows, OtherKind, OtherLength
from ownpartners.plainbasis import is_plain_basis, made_rows, makes, plain_basis, rows_by_lead
from ownpartners.rows import is_row_of_length

MOST_ROWS = 64


def is_book(thing):
    """Whether any value is a book."""
    if not isinstance(thing, tuple) or len(thing) != 3:
        return False
    kind, n, basis = thing
    if not is_kind(kind) or not is_length(n) or not isinstance(basis, tuple):
        return False
    return all(is_row_of_length(kind, n, row) for row in basis) and is_plain_basis(kind, basis)


def check_book(thing):
    """Raises BadBook for any value that is no book."""
    if not is_book(thing):
        raise BadBook(thing)


def check_one_kind(one, other):
    """Raises the errors of two values that are not two books of one kind."""
    check_book(one)
    check_book(other)
    if other[0] != one[0]:
        raise OtherKind(other)


def check_two_books(one, other):
    """Raises the errors of two values that are not two books of one kind and length."""
    check_one_kind(one, other)
    if other[1] != one[1]:
        raise OtherLength(other)


def book_of(kind, n, rows):
    """The book that some rows make."""
    check_kind(kind)
    check_length(n)
    if not isinstance(rows, tuple) or len(rows) > MOST_ROWS:
        raise BadRows(rows)
    if not all(is_row_of_length(kind, n, row) for row in rows):
        raise BadRows(rows)
    return (kind, n, plain_basis(kind, rows))


def whole_book(kind, n):
    """The book of all rows of a kind and length."""
    check_kind(kind)
    check_length(n)
    return (kind, n, tuple([(0,) * k + (1,) + (0,) * (n - k - 1) for k in range(n)]))


def nought_book(kind, n):
    """The book of the row of noughts alone."""
    check_kind(kind)
    check_length(n)
    return (kind, n, ())


def how_many(book):
    """The number of the rows of a book."""
    check_book(book)
    number = 1
    for head in book[2]:
        number = number * rows_by_lead(book[0], head)
    return number


def rows_of(book):
    """The ascending tuple of the rows of a book."""
    check_book(book)
    kind, n, basis = book
    return tuple(sorted(made_rows(kind, n, basis)))


def has_row(book, thing):
    """Whether any value is a row of a book."""
    check_book(book)
    kind, n, basis = book
    return is_row_of_length(kind, n, thing) and makes(kind, basis, thing)


def is_within(one, other):
    """Whether all rows of a book are rows of another one."""
    check_two_books(one, other)
    return all(makes(other[0], other[2], row) for row in one[2])
