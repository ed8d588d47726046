"""Own partners of "two", "three" and "four" from one another, one row of a basis swapped. Nothing is checked."""

from ownpartners.combining import partner_of
from ownpartners.plainbasis import makes, plain_basis
from ownpartners.tables import SIZES, row_less, row_meeting


def rows_beside(kind, basis, rows):
    """The tuple of those rows that the basis and the rows taken ahead of them do not make."""
    found = []
    for row in rows:
        if not makes(kind, basis, row):
            found.append(row)
            basis = plain_basis(kind, basis + (row,))
    return tuple(found)


def mark_tuples(kind, many):
    """The list of all tuples of so many marks."""
    found = [()]
    for _ in range(many):
        found = [marks + (mark,) for marks in found for mark in range(SIZES[kind])]
    return found


def others_through(kind, n, own, within, row):
    """The bases of the own partners other than a told one that have a book whose rows, with one more, make that."""
    # The partner of the book has one basis row more than the own partner does, so this row is all that there is beside.
    beside = rows_beside(kind, own, partner_of((kind, n, within))[2])[0]
    swapped = [row_less(kind, beside, mark, row) for mark in range(SIZES[kind])]
    return [plain_basis(kind, within + (one,)) for one in swapped if row_meeting(kind, one, one) == 0]


def neighbours_without(kind, n, kept, row, others):
    """The list of the bases of all neighbours, of the own partner that these rows make, that have the kept rows, but
    not the one row; each once."""
    own = plain_basis(kind, kept + (row,) + others)
    found = []
    for marks in mark_tuples(kind, len(others)):
        rows = tuple([row_less(kind, other, mark, row) for other, mark in zip(others, marks)])
        found.extend(others_through(kind, n, own, plain_basis(kind, kept + rows), row))
    return found
