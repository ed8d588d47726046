"""Rests: rows whose differences are in a book, how deep they lie, and what is nearest in the book."""

from ownpartners.books import check_book, how_many
from ownpartners.checks import check_from_nought
from ownpartners.combining import partner_of
from ownpartners.counts import counts_of, least_counted
from ownpartners.errors import BadRow
from ownpartners.partnercounts import partner_numbers
from ownpartners.plainbasis import made_rows, makes, remainder
from ownpartners.rows import is_row_of_length
from ownpartners.tables import SIZES, row_less, row_weight


def check_row_of(book, thing):
    """Raises BadRow for any value that is no row of the kind and length of a book."""
    kind, n, _ = book
    if not is_row_of_length(kind, n, thing):
        raise BadRow(thing)


def with_one_more(q, row):
    """The list of the rows with one more mark other than 0."""
    return [row[:k] + (mark,) + row[k + 1:] for k in range(len(row)) if row[k] == 0 for mark in range(1, q)]


def shallowest_rows(book):
    """The list of rows of the least weight, one for each rest, ascending by weight; nothing is checked."""
    kind, n, basis = book
    nought = (0,) * n
    # What is left of a row when the plain basis is taken away is the same for all rows of a rest, and for no others.
    found = {nought: nought}
    rows = [nought]
    while rows:
        # A row of the least weight of its rest, less one of its marks, is of the least weight of its rest as well.
        longer = []
        for row in rows:
            for one in with_one_more(SIZES[kind], row):
                left = remainder(kind, basis, one)
                if left not in found:
                    found[left] = one
                    longer.append(one)
        rows = longer
    return list(found.values())


def farthest_depth(book):
    """The greatest depth of a rest; nothing is checked."""
    return row_weight(shallowest_rows(book)[-1])


def rest_counts(book):
    """The tuple of the numbers of the rests by depth."""
    check_book(book)
    counts = [0] * (book[1] + 1)
    for row in shallowest_rows(book):
        counts[row_weight(row)] += 1
    return tuple(counts)


def farthest(book):
    """The greatest depth of a rest."""
    check_book(book)
    return farthest_depth(book)


def weights_of_partner(book):
    """How many weights above 0 the rows of the partner have."""
    check_book(book)
    numbers = partner_numbers(SIZES[book[0]], counts_of(book))
    return len([number for number in numbers[1:] if number])


def is_tight(book):
    """Whether each row differs from just one row of a book at fewer places than half its least weight."""
    check_book(book)
    least = least_counted(counts_of(book))
    return least is not None and 2 * farthest_depth(book) < least


def differing(one, other):
    """At how many places two rows differ."""
    return len([1 for a, b in zip(one, other) if a != b])


def nearest_rows(book, row):
    """The list of the rows of a book from which a row differs at the fewest places; nothing is checked."""
    kind, n, basis = book
    rows = made_rows(kind, n, basis)
    least = min([differing(row, one) for one in rows])
    return [one for one in rows if differing(row, one) == least]


def depth_of(book, row):
    """The least number of places at which a row differs from a row of a book; nothing is checked."""
    return differing(row, nearest_rows(book, row)[0])


def depth(book, row):
    """The least number of places at which a row differs from a row of a book."""
    check_book(book)
    check_row_of(book, row)
    return depth_of(book, row)


def nearest(book, row):
    """The ascending tuple of the rows of a book from which a row differs at the fewest places."""
    check_book(book)
    check_row_of(book, row)
    return tuple(sorted(nearest_rows(book, row)))


def are_one_rest(book, one, other):
    """Whether the difference of two rows is a row of a book."""
    check_book(book)
    check_row_of(book, one)
    check_row_of(book, other)
    kind, _, basis = book
    return makes(kind, basis, row_less(kind, one, 1, other))


def judge_far(book, r):
    """A row of at most the weight r for each rest, or a row that is farther than r places from all rows of a book."""
    check_book(book)
    check_from_nought(r)
    rows = shallowest_rows(book)
    return ("far", rows[-1]) if row_weight(rows[-1]) > r else ("within", tuple(rows))


def within_holds(book, r, rows):
    """Whether any value is a tuple of rows of at most the weight r, one for each rest."""
    kind, n, basis = book
    # There are as many rests as the partner has rows.
    if not isinstance(rows, tuple) or len(rows) != how_many(partner_of(book)):
        return False
    if not all(is_row_of_length(kind, n, row) and row_weight(row) <= r for row in rows):
        return False
    return len({remainder(kind, basis, row) for row in rows}) == len(rows)


def far_holds(book, r, thing):
    """Whether any value is a certificate that all rows are within r places of a book, or that one is not."""
    check_book(book)
    check_from_nought(r)
    if not isinstance(thing, tuple) or len(thing) != 2:
        return False
    if thing[0] == "within":
        return within_holds(book, r, thing[1])
    return thing[0] == "far" and is_row_of_length(book[0], book[1], thing[1]) and depth_of(book, thing[1]) > r
