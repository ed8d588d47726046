"""Books that meet in nought made greater, up to own partners."""

from ownpartners.checks import check_from_nought, check_kind, check_length
from ownpartners.combining import partner_of
from ownpartners.errors import BadKind, NoOwn, TooMany
from ownpartners.families import are_there
from ownpartners.own import check_fourfold, check_no_ring, check_nought
from ownpartners.ownnumbers import through_number
from ownpartners.plainbasis import made_rows, plain_basis
from ownpartners.residues import doubles_above, residue_below
from ownpartners.swapping import neighbours_without, rows_beside
from ownpartners.tables import row_meeting, row_weight


def most_dimension(kind, n):
    """The greatest dimension of a book of "two", "three" or "four" that meets in nought; nothing is checked."""
    return (n - 1) // 2 if kind == "three" and n % 4 else n // 2


def greatest_dimension(kind, n):
    """The greatest dimension of a book that meets in nought."""
    check_kind(kind)
    if kind == "ring":
        raise BadKind(kind)
    check_length(n)
    return most_dimension(kind, n)


def meets_itself_in_nought(kind, row):
    """Whether a row meets itself in 0."""
    return row_meeting(kind, row, row) == 0


def has_fourfold_weight(_, row):
    """Whether the weight of a row is divisible by 4."""
    return row_weight(row) % 4 == 0


def row_to_put(book, fits):
    """A row of the partner that fits and is not in the book, a book below the greatest dimension."""
    kind, n, basis = book
    # Of the sums of three rows beside the book one fits, by Chevalley's theorem; where there are but two such rows,
    # one does as the greatest dimension is not come to.
    beside = rows_beside(kind, basis, partner_of(book)[2])[:3]
    for row in made_rows(kind, n, beside):
        if any(row) and fits(kind, row):
            return row
    return None


def filled(book, dimension, fits):
    """A book of the dimension, made by the rows of a book and further ones that fit."""
    kind, n, basis = book
    while len(basis) < dimension:
        basis = plain_basis(kind, basis + (row_to_put((kind, n, basis), fits),))
    return (kind, n, basis)


def grown(book):
    """A book of the greatest dimension that meets in nought and has all rows of a book."""
    check_no_ring(book)
    check_nought(book)
    return filled(book, most_dimension(book[0], book[1]), meets_itself_in_nought)


def ring_through(book):
    """An own partner of "ring" that has all rows of a book that meets in nought."""
    _, n, basis = book
    return ("ring", n, plain_basis("ring", basis + doubles_above(residue_below(book))))


def own_through(book):
    """An own partner that has all rows of a book."""
    check_nought(book)
    kind, n, _ = book
    if not are_there(kind, n):
        raise NoOwn()
    if kind == "ring":
        return ring_through(book)
    return filled(book, n // 2, meets_itself_in_nought)


def fourfold_through(book):
    """A fourfold own partner that has all rows of a book."""
    check_fourfold(book)
    _, n, basis = book
    if not are_there("fourfold", n):
        raise NoOwn()
    # With the row of ones in the book, all rows of its partner have even weights, as fits a form by their halves.
    with_ones = plain_basis("two", basis + ((1,) * n,))
    return filled(("two", n, with_ones), n // 2, has_fourfold_weight)


def bases_through(book):
    """The list of the bases of all own partners that have all rows of a book, each once."""
    kind, n, basis = book
    if 2 * len(basis) == n:
        return [basis]
    row = row_to_put(book, meets_itself_in_nought)
    wider = plain_basis(kind, basis + (row,))
    found = []
    for own in bases_through((kind, n, wider)):
        # Each own partner without the row has a neighbour with it, just one: that by the row.
        found.append(own)
        found.extend(neighbours_without(kind, n, basis, row, rows_beside(kind, wider, own)))
    return found


def all_through(book, *, most=256):
    """The ascending tuple of all own partners that have all rows of a book."""
    check_no_ring(book)
    check_nought(book)
    check_from_nought(most)
    if through_number(book) > most:
        raise TooMany(most)
    kind, n, _ = book
    if not are_there(kind, n):
        return ()
    return tuple([(kind, n, basis) for basis in sorted(bases_through(book))])
