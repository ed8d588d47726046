"""Changes: pairs (places, factors) that lead rows to rows and books to books."""

from ownpartners.books import check_book
from ownpartners.checks import check_kind, check_length, is_integer_tuple, is_length
from ownpartners.errors import BadChange
from ownpartners.plainbasis import plain_basis
from ownpartners.rows import check_row
from ownpartners.tables import LEVELLERS, PRODUCTS, UNITS


def has_each_place(n, thing):
    """Whether any value is a tuple that has each of n places once."""
    return is_integer_tuple(n, thing) and sorted(thing) == list(range(n))


def has_units(kind, n, thing):
    """Whether any value is a tuple of n units."""
    return is_integer_tuple(n, thing) and all(factor in UNITS[kind] for factor in thing)


def is_change(kind, n, thing):
    """Whether any value is a change of a kind and a length."""
    check_kind(kind)
    check_length(n)
    if not isinstance(thing, tuple) or len(thing) != 2:
        return False
    places, factors = thing
    return has_each_place(n, places) and has_units(kind, n, factors)


def check_change(kind, n, thing):
    """Raises BadChange for any value that is no change of the kind and the length."""
    if not is_change(kind, n, thing):
        raise BadChange(thing)


def check_any_change(kind, thing):
    """Raises BadChange for any value that is no change of the kind, of any length."""
    if not isinstance(thing, tuple) or not thing or not isinstance(thing[0], tuple) or not is_length(len(thing[0])):
        raise BadChange(thing)
    check_change(kind, len(thing[0]), thing)


def both_changes(kind, first, second):
    """The change that does the first one and then the second one."""
    check_kind(kind)
    check_any_change(kind, first)
    check_any_change(kind, second)
    if len(second[0]) != len(first[0]):
        raise BadChange(second)
    products = PRODUCTS[kind]
    places = tuple([second[0][place] for place in first[0]])
    factors = tuple([products[second[1][place]][factor] for place, factor in zip(first[0], first[1])])
    return (places, factors)


def change_undone(kind, change):
    """The change that leads back what a change has led."""
    check_kind(kind)
    check_any_change(kind, change)
    places, factors = change
    sources = [places.index(place) for place in range(len(places))]
    # The leveller of a unit is its inverse.
    return (tuple(sources), tuple([LEVELLERS[kind][factors[source]] for source in sources]))


def changes_number(kind, n):
    """How many changes of a kind and a length there are."""
    check_kind(kind)
    check_length(n)
    number = 1
    for k in range(n):
        number = number * (k + 1) * len(UNITS[kind])
    return number


def moved(kind, change, row):
    """The row to which a change leads a row; nothing is checked."""
    places, factors = change
    marks = [0] * len(row)
    for place, factor, mark in zip(places, factors, row):
        marks[place] = PRODUCTS[kind][factor][mark]
    return tuple(marks)


def led_row(kind, change, row):
    """The row to which a change leads a row."""
    check_kind(kind)
    check_row(kind, row)
    check_change(kind, len(row), change)
    return moved(kind, change, row)


def led(book, change):
    """The book to which a change leads a book."""
    check_book(book)
    kind, n, basis = book
    check_change(kind, n, change)
    return (kind, n, plain_basis(kind, [moved(kind, change, row) for row in basis]))
