"""Neighbours: own partners that share all but one row of a basis; ways from neighbour to neighbour."""

from ownpartners.books import check_book, check_two_books, has_row
from ownpartners.checks import check_length
from ownpartners.combining import shared
from ownpartners.errors import BadRow, InBook, MeetsItself, OtherKind
from ownpartners.families import are_there, check_counted_family
from ownpartners.own import check_fourfold, check_no_ring, check_own, is_fourfold, is_own
from ownpartners.plainbasis import basis_behind, makes, plain_basis
from ownpartners.rows import is_row_of_length
from ownpartners.swapping import neighbours_without
from ownpartners.tables import SIZES, row_meeting


def check_one(book):
    """Raises the errors of a value that is no own partner of "two", "three" or "four"."""
    check_no_ring(book)
    check_own(book)


def check_two(one, other):
    """Raises the errors of two values that are not two own partners of "two", "three" or "four" of one length."""
    check_book(one)
    check_book(other)
    check_no_ring(one)
    # A second book of "ring" is of another kind than the first one.
    check_two_books(one, other)
    check_own(one)
    check_own(other)


def swapped_by(book, row):
    """The neighbour of an own partner by a row; nothing is checked."""
    kind, n, basis = book
    # Ahead of each row stands in what it meets the told one.
    met = basis_behind(kind, 1, [(row_meeting(kind, one, row),) + one for one in basis])
    return (kind, n, plain_basis(kind, met + (row,)))


def neighbour_by(book, row):
    """The neighbour of an own partner by a row."""
    check_one(book)
    kind, n, _ = book
    if not is_row_of_length(kind, n, row):
        raise BadRow(row)
    if row_meeting(kind, row, row):
        raise MeetsItself(row)
    if has_row(book, row):
        raise InBook(row)
    return swapped_by(book, row)


def neighbours_of(book):
    """The ascending tuple of all neighbours of an own partner."""
    check_one(book)
    kind, n, basis = book
    found = []
    for k in range(len(basis)):
        # Those that have the rows of the basis ahead of one, but not that one.
        found.extend(neighbours_without(kind, n, basis[:k], basis[k], basis[k + 1:]))
    return tuple([(kind, n, one) for one in sorted(found)])


def fourfold_neighbours_of(book):
    """The ascending tuple of the fourfold ones among the neighbours of an own partner."""
    return tuple([one for one in neighbours_of(book) if is_fourfold(one)])


def steps(one, other):
    """The steps between two own partners; nothing is checked."""
    return one[1] // 2 - len(shared(one, other)[2])


def are_neighbours(one, other):
    """Whether two own partners are neighbours."""
    check_two(one, other)
    return steps(one, other) == 1


def steps_between(one, other):
    """The steps between two own partners."""
    check_two(one, other)
    return steps(one, other)


def ways_number(one, other):
    """How many shortest ways lead from an own partner to another one."""
    check_two(one, other)
    number, part, power = 1, 0, 1
    for _ in range(steps(one, other)):
        part = part + power
        power = power * SIZES[one[0]]
        number = number * part
    return number


def way_between(one, other):
    """A shortest way from an own partner to another one."""
    check_two(one, other)
    way = [one]
    for row in other[2]:
        # A row that the last one has stays in all further ones, as these are swapped by rows of the other end.
        if not makes(one[0], way[-1][2], row):
            way.append(swapped_by(way[-1], row))
    return tuple(way)


def are_of_one_sort(one, thing):
    """Whether any value is an own partner of the kind and length of a book."""
    return is_own(thing) and thing[0] == one[0] and thing[1] == one[1]


def way_holds(one, other, thing):
    """Whether any value is a shortest way from an own partner to another one."""
    check_two(one, other)
    if not isinstance(thing, tuple) or len(thing) != steps(one, other) + 1:
        return False
    if not all(are_of_one_sort(one, part) for part in thing) or thing[0] != one or thing[-1] != other:
        return False
    return all(steps(thing[k - 1], thing[k]) == 1 for k in range(1, len(thing)))


def power_sum(q, many):
    """The sum of so many powers of q, from 1 on."""
    total = 0
    for _ in range(many):
        total = 1 + q * total
    return total


def neighbour_number(family, n):
    """How many neighbours each own partner of a family and length has, fourfold ones for "fourfold"."""
    check_counted_family(family)
    check_length(n)
    if not are_there(family, n):
        return 0
    half = n // 2
    if family == "three":
        return power_sum(3, half)
    if family == "four":
        return 2 * power_sum(4, half)
    # All own partners of "two" have the row of ones, so the book that neighbours share has it.
    return power_sum(2, half - 1) * (2 if family == "two" else 1)


def are_on_one_side(one, other):
    """Whether the steps between two own partners of "three", or fourfold ones, are even."""
    check_two(one, other)
    if one[0] == "four":
        raise OtherKind(one)
    if one[0] == "two":
        check_fourfold(one)
        check_fourfold(other)
    return steps(one, other) % 2 == 0
