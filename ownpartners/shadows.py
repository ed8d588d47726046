"""Shadows of own partners of "two": the rows that meet each row in the remainder by 2 of half its weight."""

from ownpartners.checks import MOST_DEGREE, check_integers, is_integer
from ownpartners.errors import BadLength
from ownpartners.own import check_binary, check_own
from ownpartners.partnercounts import column
from ownpartners.plainbasis import lead_place, made_rows
from ownpartners.rows import is_row_of_length
from ownpartners.tables import row_meeting, row_sum, row_weight


def check_shaded(book):
    """Raises the errors of a value that is no own partner of "two"."""
    check_binary(book)
    check_own(book)


def half_parity(row):
    """The remainder by 2 of half the weight of a row."""
    return row_weight(row) // 2 % 2


def shadow_rows(book):
    """The list of the rows of the shadow, in any order; nothing is checked."""
    kind, n, basis = book
    # At the place of each lead all other rows of the basis have 0; so what is put there is met by that row alone.
    first = [0] * n
    for row in basis:
        first[lead_place(row)] = half_parity(row)
    return [row_sum(kind, first, row) for row in made_rows(kind, n, basis)]


def shadow_of(book):
    """The ascending tuple of the rows of the shadow of an own partner."""
    check_shaded(book)
    return tuple(sorted(shadow_rows(book)))


def shadow_counts(book):
    """The tuple of the numbers of the rows of the shadow by weight."""
    check_shaded(book)
    counts = [0] * (book[1] + 1)
    for row in shadow_rows(book):
        counts[row_weight(row)] += 1
    return tuple(counts)


def in_shadow(book, thing):
    """Whether any value is a row of the shadow."""
    check_shaded(book)
    kind, n, basis = book
    if not is_row_of_length(kind, n, thing):
        return False
    # Both the meeting and the half of the weight, by 2, are for a sum the sum of theirs.
    return all(row_meeting(kind, thing, row) == half_parity(row) for row in basis)


def sums_of_shadow(n, numbers):
    """The numbers of the rows of the shadow, not yet divided, for numbers by weight; nothing is checked."""
    sums = [0] * (n + 1)
    for weight in range(0, n + 1, 2):
        number = -numbers[weight] if weight % 4 else numbers[weight]
        sums = [one + number * part for one, part in zip(sums, column(2, n, weight))]
    return tuple(sums)


def half_power(n):
    """How many rows an own partner of "two" has, by which the sums are divided."""
    return 1 << (n // 2)


def shadow_sums(n, numbers):
    """The numbers of the rows of the shadow, not yet divided, for numbers by weight."""
    if not is_integer(n) or not 2 <= n <= MOST_DEGREE or n % 2:
        raise BadLength(n)
    check_integers(n + 1, numbers)
    return sums_of_shadow(n, numbers)
