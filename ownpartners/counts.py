"""Counts of the rows of a book, by weight and otherwise."""

from ownpartners.books import check_book
from ownpartners.checks import is_place_tuple
from ownpartners.errors import BadPlaces, OtherKind
from ownpartners.plainbasis import made_rows
from ownpartners.tables import row_weight


def counts_of(book):
    """The tuple of the numbers of the rows by weight."""
    check_book(book)
    kind, n, basis = book
    counts = [0] * (n + 1)
    for row in made_rows(kind, n, basis):
        counts[row_weight(row)] += 1
    return tuple(counts)


def least_counted(counts):
    """The least weight above 0 of which there are rows, by their numbers; None if there is none."""
    for weight in range(1, len(counts)):
        if counts[weight]:
            return weight
    return None


def least_weight(book):
    """The least weight of a row other than the row of noughts; None if there is no other one."""
    return least_counted(counts_of(book))


def rows_of_weight(book, weight):
    """The list of the rows of a weight, in any order; nothing is checked."""
    kind, n, basis = book
    return [row for row in made_rows(kind, n, basis) if row_weight(row) == weight]


def split_counts(book, places):
    """The tuple of tuples of the numbers of the rows by their weights at some places and at the other ones."""
    check_book(book)
    kind, n, basis = book
    if not is_place_tuple(n, places):
        raise BadPlaces(places)
    p = len(places)
    counts = [[0] * (n - p + 1) for _ in range(p + 1)]
    for row in made_rows(kind, n, basis):
        inside = row_weight([row[place] for place in places])
        counts[inside][row_weight(row) - inside] += 1
    return tuple([tuple(line) for line in counts])


def check_ring_book(book):
    """Raises the errors of a value that is no book of "ring"."""
    check_book(book)
    if book[0] != "ring":
        raise OtherKind(book)


def mark_numbers(book):
    """The dict of the numbers of the rows of a book of "ring" by how many noughts, units and twos they have."""
    kind, n, basis = book
    numbers = {}
    for row in made_rows(kind, n, basis):
        noughts, twos = row.count(0), row.count(2)
        key = (noughts, n - noughts - twos, twos)
        numbers[key] = numbers.get(key, 0) + 1
    return numbers


def numbers_by_weight(book, most, unit_weight, two_weight):
    """The tuple of the numbers of the rows by weight, from 0 to the most, for told weights of a unit and of 2."""
    counts = [0] * (most + 1)
    for (_, units, twos), number in mark_numbers(book).items():
        counts[unit_weight * units + two_weight * twos] += number
    return tuple(counts)


def lee_counts(book):
    """The tuple of the numbers of the rows by Lee weight."""
    check_ring_book(book)
    return numbers_by_weight(book, 2 * book[1], 1, 2)


def euclid_counts(book):
    """The tuple of the numbers of the rows by Euclid weight."""
    check_ring_book(book)
    return numbers_by_weight(book, 4 * book[1], 1, 4)


def mark_counts(book):
    """The ascending tuple of the numbers of the rows by how many noughts, units and twos they have."""
    check_ring_book(book)
    return tuple(sorted([key + (number,) for key, number in mark_numbers(book).items()]))
