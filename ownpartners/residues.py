"""Residues and torsions: books of "two" below a book of "ring", and own partners of "ring" above a book of "two"."""

from ownpartners.combining import partner_of
from ownpartners.counts import check_ring_book
from ownpartners.own import check_fourfold
from ownpartners.plainbasis import lead_place, plain_basis
from ownpartners.tables import row_multiple, row_weight


def residue_below(book):
    """The book of the remainders by 2 of the rows of a book of "ring"; nothing is checked."""
    _, n, basis = book
    return ("two", n, plain_basis("two", [tuple([mark % 2 for mark in row]) for row in basis]))


def residue(book):
    """The book of the remainders by 2 of the rows of a book of "ring"."""
    check_ring_book(book)
    return residue_below(book)


def torsion(book):
    """The book of the rows of 0 and 1 whose doubles are rows of a book of "ring"."""
    check_ring_book(book)
    # A double meets a row in 0 just if the row that is doubled meets its remainders by 2 in 0.
    return partner_of(residue_below(partner_of(book)))


def doubles_above(book):
    """The tuple of the doubles of rows that make the partner of a book of "two", as rows of "ring"."""
    return tuple([row_multiple("ring", 2, row) for row in partner_of(book)[2]])


def half_meeting(one, other):
    """The remainder by 2 of half the number of places at which two rows both have 1."""
    return row_weight([a * b for a, b in zip(one, other)]) // 2 % 2


def lifted(basis, wanted):
    """The tuple of the rows b_i + 2 c_i, where c_i meets b_j in the mark that is wanted of i and j."""
    found = []
    for i in range(len(basis)):
        row = list(basis[i])
        for j in range(len(basis)):
            # At the place of its lead b_j alone has 1 among the rows of the plain basis.
            row[lead_place(basis[j])] += 2 * wanted[i][j]
        found.append(tuple(row))
    return tuple(found)


def meetings_by(basis, choice):
    """The marks that are wanted of all i and j: those with j up to i are told by the choice, a number read bit by bit;
    the others are then due."""
    k = len(basis)
    wanted = [[0] * k for _ in range(k)]
    for i in range(k):
        for j in range(i + 1):
            bit = choice % 2
            choice = choice // 2
            wanted[i][j] = bit
            if j < i:
                wanted[j][i] = (bit + half_meeting(basis[i], basis[j])) % 2
    return wanted


def own_by(book, choice):
    """The own partner of "ring" above a fourfold book that a choice tells."""
    _, n, basis = book
    rows = lifted(basis, meetings_by(basis, choice)) + doubles_above(book)
    return ("ring", n, plain_basis("ring", rows))


def own_above(book):
    """An own partner of "ring" whose residue is a fourfold book."""
    check_fourfold(book)
    return own_by(book, 0)


def owns_above(book):
    """The ascending tuple of all own partners of "ring" whose residue is a fourfold book."""
    check_fourfold(book)
    k = len(book[2])
    return tuple(sorted([own_by(book, choice) for choice in range(1 << (k * (k + 1) // 2))]))
