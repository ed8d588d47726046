"""Rows: their sums, multiples, meetings and weights."""

from ownpartners.checks import check_kind, is_length
from ownpartners.errors import BadRow, OtherLength
from ownpartners.marks import check_mark, is_mark
from ownpartners.tables import EUCLID_WEIGHTS, LEE_WEIGHTS, row_meeting, row_multiple, row_sum, row_weight


def is_row(kind, thing):
    """Whether any value is a row of a kind."""
    check_kind(kind)
    return isinstance(thing, tuple) and is_length(len(thing)) and all(is_mark(kind, mark) for mark in thing)


def is_row_of_length(kind, n, thing):
    """Whether any value is a row of a kind with n marks."""
    return is_row(kind, thing) and len(thing) == n


def check_row(kind, thing):
    """Raises BadRow for any value that is no row of the kind."""
    if not is_row(kind, thing):
        raise BadRow(thing)


def check_two_rows(kind, one, other):
    """Raises the errors of two values that are not two rows of the kind and of one length."""
    check_row(kind, one)
    check_row(kind, other)
    if len(other) != len(one):
        raise OtherLength(other)


def added(kind, one, other):
    """The sum of two rows."""
    check_kind(kind)
    check_two_rows(kind, one, other)
    return row_sum(kind, one, other)


def meeting(kind, one, other):
    """The mark in which two rows meet."""
    check_kind(kind)
    check_two_rows(kind, one, other)
    return row_meeting(kind, one, other)


def multiple(kind, mark, row):
    """The multiple of a row by a mark."""
    check_kind(kind)
    check_mark(kind, mark)
    check_row(kind, row)
    return row_multiple(kind, mark, row)


def weight_of(kind, row):
    """The weight of a row."""
    check_kind(kind)
    check_row(kind, row)
    return row_weight(row)


def lee_weight(row):
    """The Lee weight of a row of "ring"."""
    check_row("ring", row)
    return sum(LEE_WEIGHTS[mark] for mark in row)


def euclid_weight(row):
    """The Euclid weight of a row of "ring"."""
    check_row("ring", row)
    return sum(EUCLID_WEIGHTS[mark] for mark in row)
