import itertools
import random
import unittest

from ownpartners import errors
from ownpartners.books import nought_book, rows_of
from ownpartners.own import has_own, is_nought, nought_holds
from ownpartners.ownnumbers import fourfold_number, own_number, ring_number, through_number
from tests import reference
from tests.cases import HEXA, JUNK, NO_INTEGERS, PAIRS, RING, TETRA, BookCase
from tests.test_own import GOLAY, OCTA, OCTAD, books_with_rows, is_right_fourfold, is_right_nought

LENGTHS = (("two", range(1, 9)), ("three", range(1, 6)), ("four", range(1, 6)))


def power_product(powers):
    found = 1
    for power in powers:
        found *= power + 1
    return found


def formula(family, n):
    """The number of [5.6], as it stands there."""
    h = n // 2
    if family == "two":
        return power_product(2 ** i for i in range(1, h)) if n % 2 == 0 else 0
    if family == "fourfold":
        return 2 * power_product(2 ** i for i in range(1, h - 1)) if n % 8 == 0 else 0
    if family == "three":
        return 2 * power_product(3 ** i for i in range(1, h)) if n % 4 == 0 else 0
    return power_product(2 ** (2 * i + 1) for i in range(h)) if n % 2 == 0 else 0


def through_formula(kind, n, rows):
    """The number of [5.7], as it stands there."""
    if not has_own(kind, n):
        return 0
    h = n // 2
    if kind == "two":
        k = (len(reference.closure(kind, n, tuple(rows)[1:] + ((1,) * n,)))).bit_length() - 1
        return power_product(2 ** i for i in range(1, h - k + 1))
    k = {reference.SIZES[kind] ** j: j for j in range(9)}[len(rows)]
    if kind == "three":
        return power_product(3 ** i for i in range(h - k))
    return power_product(2 ** (2 * i + 1) for i in range(h - k))


def ring_bases(book):
    """Bases that a book of "two" and rows with its rows as remainders make by [10.2], each choice of them."""
    n, basis = book[1], book[2]
    partner = sorted(reference.partner_rows("two", n, basis))
    classes = {}
    for row in reference.all_rows("two", n):
        classes.setdefault(tuple(reference.meet("two", row, x) for x in basis), row)
    doubles = tuple(reference.times_row("ring", 2, row) for row in partner)
    for tails in itertools.product(sorted(classes.values()), repeat=len(basis)):
        rows = tuple(tuple(a + 2 * b for a, b in zip(row, tail)) for row, tail in zip(basis, tails))
        yield rows, doubles


class OwnNumbers(BookCase):
    def test_as_going_through_all_books_tells(self):
        for family, lengths in LENGTHS:
            for n in lengths:
                self.assertEqual(own_number(family, n), len(reference.own_sets(family, n)))
        for n in range(1, 9):
            fourfold = [rows for rows in reference.own_sets("two", n) if reference.is_fourfold_set(rows)]
            self.assertEqual(own_number("fourfold", n), len(fourfold))

    def test_the_products_of_all_lengths(self):
        for family in ("two", "fourfold", "three", "four"):
            for n in range(1, 17):
                self.assertEqual(own_number(family, n), formula(family, n))
        self.assertEqual([own_number("two", 1), own_number("two", 2), own_number("four", 2)], [0, 1, 3])
        self.assertEqual(own_number(n=8, family="two"), 135)
        self.assertEqual(own_number("fourfold", 16), 2 * 3 * 5 * 9 * 17 * 33 * 65)
        self.assertEqual(own_number("two", 16), 3 * 5 * 9 * 17 * 33 * 65 * 129)
        self.assertEqual(own_number("three", 16), 2 * 4 * 10 * 28 * 82 * 244 * 730 * 2188)
        self.assertEqual(own_number("four", 16), 3 * 9 * 33 * 129 * 513 * 2049 * 8193 * 32769)

    def test_bad_families_come_first(self):
        for family in JUNK:
            if family in ("two", "fourfold"):
                continue
            self.assert_bears(errors.BadFamily, family, own_number, family, None)
            self.assert_bears(errors.BadFamily, family, own_number, n=4, family=family)
        self.assert_bears(errors.BadFamily, "ring", own_number, "ring", 17)

    def test_bad_lengths(self):
        for family in ("two", "fourfold", "three", "four"):
            for n in NO_INTEGERS + (0, -1, 17, 10 ** 99, True, False):
                self.assert_bears(errors.BadLength, n, own_number, family, n)
                self.assert_bears(errors.BadLength, n, own_number, n=n, family=family)


class Through(BookCase):
    def test_as_going_through_all_own_partners_tells(self):
        for kind, lengths in LENGTHS:
            for n in lengths:
                chance = random.Random(f"through {kind} {n}")
                sets = reference.nought_sets(kind, n)
                own = [set(rows) for rows in reference.own_sets(kind, n)]
                for rows in chance.sample(sets, min(120, len(sets))):
                    book = (kind, n, reference.basis_of(kind, n, rows))
                    due = sum(1 for one in own if one.issuperset(rows))
                    self.assertEqual(through_number(book), due)
                    self.assertEqual(through_number(book), through_formula(kind, n, rows))
                    if kind == "two" and reference.is_fourfold_set(rows):
                        due = sum(1 for one in own if one.issuperset(rows) and reference.is_fourfold_set(one))
                        self.assertEqual(fourfold_number(book), due)

    def test_nought_books_give_the_numbers_of_all(self):
        for n in range(1, 17):
            for kind in ("two", "three", "four"):
                self.assertEqual(through_number(nought_book(kind, n)), own_number(kind, n))
            self.assertEqual(fourfold_number(nought_book("two", n)), own_number("fourfold", n))
            ones = ("two", n, ((1,) * n,))
            if n % 2 == 0:
                self.assertEqual(through_number(ones), own_number("two", n))
            if n % 4 == 0:
                self.assertEqual(fourfold_number(ones), own_number("fourfold", n))

    def test_own_partners_lie_within_themselves_alone(self):
        for book in (PAIRS, TETRA, HEXA, OCTAD, GOLAY):
            self.assertEqual(through_number(book), 1)
        self.assertEqual(fourfold_number(OCTAD), 1)
        self.assertEqual(through_number(book=("two", 6, ((1, 1, 1, 1, 0, 0),))), 3)
        self.assertEqual(fourfold_number(book=nought_book("two", 8)), 30)

    def test_ring_numbers_as_going_through_all_books_tells(self):
        for n in range(1, 6):
            found = {}
            for rows in reference.own_sets("ring", n):
                residue = frozenset(tuple(mark % 2 for mark in row) for row in rows)
                found[residue] = found.get(residue, 0) + 1
            books = books_with_rows("two", n) if n <= 4 else [
                (("two", 5, reference.basis_of("two", 5, rows)), rows) for rows in reference.nought_sets("two", 5)]
            for book, rows in books:
                self.assertEqual(ring_number(book), found.pop(frozenset(rows), 0))
            self.assertEqual(found, {})

    def test_ring_numbers_of_8_places(self):
        for basis in ((), ((1,) * 8,), OCTAD[2][:1], OCTAD[2][:2], ((1, 1, 1, 1, 0, 0, 0, 0), (0, 0, 0, 0, 1, 1, 1, 1)),
                      OCTAD[2][1:]):
            book = ("two", 8, basis)
            due = 0
            for rows, doubles in ring_bases(book):
                due += not reference.unmet("ring", rows) and not any(
                    reference.meet("ring", x, y) for x in rows for y in doubles)
            self.assertEqual(ring_number(book), due)
        self.assertEqual([ring_number(OCTAD), ring_number(book=PAIRS), ring_number(nought_book("two", 16))], [1024, 0, 1])


class Wrong(BookCase):
    def test_bad_books(self):
        for book in JUNK:
            for function in (through_number, fourfold_number, ring_number):
                self.assert_bears(errors.BadBook, book, function, book)
                self.assert_bears(errors.BadBook, book, function, book=book)

    def test_other_kinds(self):
        # The books of "ring" do not even meet in nought.
        for book in (RING, OCTA, ("ring", 1, ((1,),))):
            self.assert_bears(errors.OtherKind, book, through_number, book)
        for book in (RING, OCTA, TETRA, HEXA, ("three", 1, ((1,),)), ("four", 2, ((1, 0),))):
            self.assert_bears(errors.OtherKind, book, fourfold_number, book)
            self.assert_bears(errors.OtherKind, book, ring_number, book=book)

    def test_not_nought(self):
        for kind, n in (("two", 3), ("two", 4), ("three", 2), ("three", 3), ("four", 2)):
            for book, rows in books_with_rows(kind, n):
                if not is_nought(book):
                    self.check_certificate(errors.NotNought, through_number, book, lambda thing: is_right_nought(
                        kind, n, rows, thing) and nought_holds(book, thing) and thing[0] == "meet")

    def test_not_fourfold(self):
        for n in (2, 3, 4):
            for book, rows in books_with_rows("two", n):
                if not reference.is_fourfold_set(rows):
                    self.assertEqual(ring_number(book), 0)
                    self.check_certificate(errors.NotFourfold, fourfold_number, book, lambda thing: is_right_fourfold(
                        n, rows, thing) and thing[0] == "weight")
        self.assertEqual(fourfold_number(("two", 5, ((0, 1, 1, 1, 1),))), 0)
        self.assertEqual(len(rows_of(PAIRS)), 4)


if __name__ == "__main__":
    unittest.main()
