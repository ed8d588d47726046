"""Texts of books."""

from ownpartners.books import check_book
from ownpartners.checks import MOST_PLACES, is_kind
from ownpartners.errors import BadText
from ownpartners.plainbasis import doubles_hold, fits_behind
from ownpartners.tables import SIZES


def text_of(book):
    """The text of a book."""
    check_book(book)
    kind, n, basis = book
    lines = [f"book {kind} {n}"] + ["".join([str(mark) for mark in row]) for row in basis]
    return "\n".join(lines)


def read_length(word):
    """The length that a word tells, as Python writes it; None if it tells none."""
    for n in range(1, MOST_PLACES + 1):
        if word == str(n):
            return n
    return None


def read_head(line):
    """The pair of the kind and the length that the first line of a text tells; None if it is wrong."""
    words = line.split(" ")
    if len(words) != 3 or words[0] != "book" or not is_kind(words[1]):
        return None
    n = read_length(words[2])
    return None if n is None else (words[1], n)


def read_row(kind, n, line):
    """The row of n marks that a line tells; None if it tells none."""
    digits = "0123"[:SIZES[kind]]
    if len(line) != n or not all(sign in digits for sign in line):
        return None
    return tuple([digits.find(sign) for sign in line])


def read_book(text):
    """The book of a text."""
    if not isinstance(text, str):
        raise BadText(0)
    lines = text.split("\n")
    head = read_head(lines[0])
    if head is None:
        raise BadText(1)
    kind, n = head
    basis = ()
    for at in range(1, len(lines)):
        row = read_row(kind, n, lines[at])
        if row is None or not fits_behind(kind, basis, row):
            raise BadText(at + 1)
        basis = basis + (row,)
    if not doubles_hold(kind, basis):
        raise BadText(len(lines) + 1)
    return (kind, n, basis)
