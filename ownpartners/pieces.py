"""Pieces of books: loose lots of places, and the parts, which are the least of them."""

from ownpartners.books import check_book, has_row, is_book
from ownpartners.checks import is_place_tuple
from ownpartners.combining import other_places, shortened
from ownpartners.errors import BadPlaces
from ownpartners.plainbasis import makes


def check_lot(n, lot):
    """Raises BadPlaces for any value that is no ascending tuple of places, or that has none or all of n places."""
    if not is_place_tuple(n, lot) or not 0 < len(lot) < n:
        raise BadPlaces(lot)


def inner(book, lot):
    """The book of the rows that have 0 outside of a lot, without the marks there; nothing is checked."""
    return shortened(book, tuple(other_places(book[1], lot)))


def parts(book):
    """The ascending tuple of the parts of a book; nothing is checked."""
    _, n, basis = book
    # For each place the least place to which a way through the rows of the basis is known.
    leasts = list(range(n))
    for row in basis:
        met = [leasts[place] for place in range(n) if row[place]]
        leasts = [min(met) if least in met else least for least in leasts]
    return tuple([tuple([place for place in range(n) if leasts[place] == k]) for k in range(n) if leasts[k] == k])


def books_of_parts(book):
    """The tuple of the pairs of each part, ascending, and its part book; nothing is checked."""
    return tuple([(part, inner(book, part)) for part in parts(book)])


def parts_of(book):
    """The ascending tuple of the parts of a book."""
    check_book(book)
    return parts(book)


def part_books(book):
    """The tuple of the pairs of each part, ascending, and its part book."""
    check_book(book)
    return books_of_parts(book)


def is_one_piece(book):
    """Whether no lot of a book is loose."""
    check_book(book)
    return len(parts(book)) == 1


def inner_book(book, lot):
    """The book of the rows that have 0 outside of a lot, without the marks there."""
    check_book(book)
    check_lot(book[1], lot)
    return inner(book, lot)


def is_held(book, lot, row):
    """Whether a row, kept within a lot, is no row of a book."""
    kind, n, basis = book
    return not makes(kind, basis, tuple([row[place] if place in lot else 0 for place in range(n)]))


def held_row(book, lot):
    """A row of a book which, kept within a lot, is no row of it; None if there is none."""
    # What is kept of a sum of rows is the sum of what is kept of them.
    for row in book[2]:
        if is_held(book, lot, row):
            return row
    return None


def loose_certificate(book, lot):
    """The certificate that a lot is loose, if it is."""
    return ("loose", inner(book, lot), inner(book, tuple(other_places(book[1], lot))))


def judge_loose(book, lot):
    """The inner and the outer book of a loose lot, or a row that shows that a lot is not loose."""
    check_book(book)
    check_lot(book[1], lot)
    row = held_row(book, lot)
    return loose_certificate(book, lot) if row is None else ("held", row)


def loose_holds(book, lot, thing):
    """Whether any value is a certificate that a lot is loose, or that it is not."""
    check_book(book)
    check_lot(book[1], lot)
    if not isinstance(thing, tuple):
        return False
    if len(thing) == 2 and thing[0] == "held":
        return has_row(book, thing[1]) and is_held(book, lot, thing[1])
    if len(thing) != 3 or not is_book(thing[1]) or not is_book(thing[2]):
        return False
    return held_row(book, lot) is None and thing == loose_certificate(book, lot)
