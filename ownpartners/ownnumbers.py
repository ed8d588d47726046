"""How many own partners there are, and how many of them have all rows of a book."""

from ownpartners.checks import check_length
from ownpartners.families import are_there, check_counted_family
from ownpartners.own import check_binary, check_fourfold, check_no_ring, check_nought, is_fourfold
from ownpartners.plainbasis import plain_basis

# The first power of the product of all powers + 1 that is the number of own partners, and by what each is the next.
FIRST_POWERS = {"two": 2, "fourfold": 1, "three": 1, "four": 2}
POWER_STEPS = {"two": 2, "fourfold": 2, "three": 3, "four": 4}


def powers_product(family, many):
    """The product of so many powers, each with 1 added."""
    product, power = 1, FIRST_POWERS[family]
    for _ in range(many):
        product = product * (power + 1)
        power = power * POWER_STEPS[family]
    return product


def number_above(family, n, dimension):
    """How many own partners have a told book of a dimension, which has the row of ones if all own partners do."""
    return powers_product(family, n // 2 - dimension) if are_there(family, n) else 0


def own_number(family, n):
    """How many own partners of a family have a length."""
    check_counted_family(family)
    check_length(n)
    # All own partners of "two" have the row of ones.
    return number_above(family, n, 1 if family in ("two", "fourfold") else 0)


def dimension_with_ones(book):
    """The dimension of a book of "two" with the row of ones put in."""
    return len(plain_basis("two", book[2] + ((1,) * book[1],)))


def through_number(book):
    """How many own partners have all rows of a book."""
    check_no_ring(book)
    check_nought(book)
    kind, n, basis = book
    return number_above(kind, n, dimension_with_ones(book) if kind == "two" else len(basis))


def fourfold_number(book):
    """How many fourfold own partners have all rows of a fourfold book."""
    check_fourfold(book)
    return number_above("fourfold", book[1], dimension_with_ones(book))


def ring_number(book):
    """How many own partners of "ring" have a book of "two" as their residue."""
    check_binary(book)
    if not is_fourfold(book):
        return 0
    k = len(book[2])
    return 1 << (k * (k + 1) // 2)
