"""Gray's pictures: rows of remainders by 4 as rows of two marks, of twice their length."""

from ownpartners.books import has_row, is_book
from ownpartners.counts import check_ring_book
from ownpartners.errors import BadRow
from ownpartners.plainbasis import made_rows, makes, plain_basis
from ownpartners.rows import is_row
from ownpartners.tables import PRODUCTS, row_multiple

MOST_PICTURED = 8

PICTURES = ((0, 0), (0, 1), (1, 1), (1, 0))


def picture(row):
    """The picture of a row; nothing is checked."""
    return tuple([part for mark in row for part in PICTURES[mark]])


def gray_row(row):
    """The picture of a row of "ring"."""
    if not is_row("ring", row) or len(row) > MOST_PICTURED:
        raise BadRow(row)
    return picture(row)


def row_pictured(row):
    """The row of "ring" whose picture a row of "two" is."""
    if not is_row("two", row) or len(row) % 2:
        raise BadRow(row)
    return tuple([PICTURES.index(row[k:k + 2]) for k in range(0, len(row), 2)])


def pictures_of(book):
    """The ascending list of all pictures of a book; nothing is checked."""
    kind, n, basis = book
    return sorted([picture(row) for row in made_rows(kind, n, basis)])


def gray_rows(book):
    """The ascending tuple of the pictures of all rows of a book."""
    check_ring_book(book)
    return tuple(pictures_of(book))


def is_broken(book, one, other):
    """Whether twice the product of two rows, mark by mark, is no row of a book."""
    kind, _, basis = book
    products = PRODUCTS[kind]
    return not makes(kind, basis, row_multiple(kind, 2, [products[a][b] for a, b in zip(one, other)]))


def broken_pair(book):
    """Two rows of a book for which twice their product is no row of it; None if there are none."""
    basis = book[2]
    # Twice the product of sums is the sum of such products; and twice the product of a row and itself is twice the row.
    for k in range(len(basis)):
        for row in basis[:k]:
            if is_broken(book, row, basis[k]):
                return (row, basis[k])
    return None


def closed_certificate(book):
    """The certificate that the pictures of a book are a book, if they are."""
    return ("closed", ("two", 2 * book[1], plain_basis("two", pictures_of(book))))


def judge_gray(book):
    """The book of the pictures of a book, or two rows that show that the pictures are no book."""
    check_ring_book(book)
    pair = broken_pair(book)
    return closed_certificate(book) if pair is None else ("broken",) + pair


def gray_holds(book, thing):
    """Whether any value is a certificate that the pictures of a book are a book, or that they are none."""
    check_ring_book(book)
    if not isinstance(thing, tuple):
        return False
    if len(thing) == 3 and thing[0] == "broken":
        _, one, other = thing
        return has_row(book, one) and has_row(book, other) and is_broken(book, one, other)
    if len(thing) != 2 or not is_book(thing[1]):
        return False
    return broken_pair(book) is None and thing == closed_certificate(book)
