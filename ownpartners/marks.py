"""Marks: how they are added, multiplied, turned and inverted."""

from ownpartners.checks import check_kind, is_integer
from ownpartners.errors import BadMark
from ownpartners.tables import LEVELLERS, PRODUCTS, SIZES, SUMS, TURNED, UNITS


def is_mark(kind, thing):
    """Whether any value is a mark of a kind."""
    return is_integer(thing) and 0 <= thing < SIZES[kind]


def check_mark(kind, thing):
    """Raises BadMark for any value that is no mark of the kind."""
    if not is_mark(kind, thing):
        raise BadMark(thing)


def size_of(kind):
    """How many marks a kind has."""
    check_kind(kind)
    return SIZES[kind]


def units_of(kind):
    """The ascending tuple of the units of a kind."""
    check_kind(kind)
    return UNITS[kind]


def sum_of(kind, one, other):
    """The sum of two marks."""
    check_kind(kind)
    check_mark(kind, one)
    check_mark(kind, other)
    return SUMS[kind][one][other]


def product_of(kind, one, other):
    """The product of two marks."""
    check_kind(kind)
    check_mark(kind, one)
    check_mark(kind, other)
    return PRODUCTS[kind][one][other]


def turned_mark(kind, mark):
    """The turned mark of a mark."""
    check_kind(kind)
    check_mark(kind, mark)
    return TURNED[kind][mark]


def inverse_of(kind, mark):
    """The inverse of a unit."""
    check_kind(kind)
    check_mark(kind, mark)
    if mark not in UNITS[kind]:
        raise BadMark(mark)
    return LEVELLERS[kind][mark]
