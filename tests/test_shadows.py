import random
import unittest

from ownpartners import errors
from ownpartners.books import nought_book, rows_of, whole_book
from ownpartners.combining import beside
from ownpartners.counts import counts_of
from ownpartners.growing import all_through, fourfold_through, own_through
from ownpartners.own import is_fourfold, is_own
from ownpartners.shadows import in_shadow, shadow_counts, shadow_of, shadow_sums
from tests import reference
from tests.cases import HEXA, JUNK, NO_INTEGERS, PAIRS, RING, TETRA, BookCase
from tests.test_gleason import shadow_number
from tests.test_growing import random_nought_books
from tests.test_own import OCTA, OCTAD, books_with_rows, is_right_own


def shadow_rows(n, rows):
    """The rows of the shadow, by going through all rows."""
    return {x for x in reference.all_rows("two", n)
            if all(reference.meet("two", x, y) == reference.weight(y) // 2 % 2 for y in rows)}


class Shadows(BookCase):
    def check_shadow(self, book, due):
        n = book[1]
        found = shadow_of(book)
        self.assertEqual(found, tuple(sorted(due)))
        weights = [reference.weight(row) for row in found]
        self.assertEqual(shadow_counts(book), tuple(weights.count(w) for w in range(n + 1)))
        sums = shadow_sums(n, counts_of(book))
        self.assertEqual(sums, tuple(2 ** (n // 2) * number for number in shadow_counts(book)))
        self.assertEqual(len(found), len(rows_of(book)))
        self.assertTrue(all(weight % 4 == n // 2 % 4 for weight in weights))
        self.assertEqual(found == rows_of(book), is_fourfold(book))

    def test_as_going_through_all_rows_tells(self):
        for n in (2, 4, 6):
            for book in all_through(nought_book("two", n)):
                due = shadow_rows(n, rows_of(book))
                self.check_shadow(book, due)
                for row in reference.all_rows("two", n):
                    self.assert_is_bool(row in due, in_shadow(book, row))

    def test_8_and_10_places(self):
        chance = random.Random("shadows")
        books = chance.sample(all_through(nought_book("two", 8)), 25) + [OCTAD, beside(PAIRS, PAIRS)]
        books += [own_through(book) for book in random_nought_books("two", (10,), 6)]
        for book in books:
            due = shadow_rows(book[1], rows_of(book))
            self.check_shadow(book, due)
            for row in reference.some_rows(chance, "two", book[1], 40) + tuple(due):
                self.assert_is_bool(row in due, in_shadow(book, row))

    def test_up_to_16_places(self):
        books = [own_through(book) for book in random_nought_books("two", (12, 14, 16), 12)]
        books += [fourfold_through(nought_book("two", 16)), beside(OCTAD, OCTAD), beside(OCTAD, PAIRS)]
        for book in books:
            found = shadow_of(book=book)
            basis = book[2]
            for row in found:
                self.assertTrue(all(reference.meet("two", row, y) == reference.weight(y) // 2 % 2 for y in basis))
            self.assertEqual(len(set(found)), 2 ** (book[1] // 2))
            self.check_shadow(book, found)
            self.assertTrue(all(in_shadow(book, row) for row in found[:50]))

    def test_sums_of_two_are_in_the_book(self):
        for book in (PAIRS, beside(PAIRS, ("two", 2, ((1, 1),))), OCTAD):
            rows = set(rows_of(book))
            for x in shadow_of(book):
                self.assertEqual({reference.add_rows("two", x, y) for y in shadow_of(book)}, rows)

    def test_in_shadow_of_any_value(self):
        for book in (("two", 2, ((1, 1),)), PAIRS, OCTAD):
            for thing in JUNK + ((0,) * 3, (0,) * 5, [0, 1], (True, False), (0, 1, 0), (1, 0, 1, 0, 0), [0, 1, 0, 1],
                                 (0, True, 0, 1), "01", (0, 2), (0, 1, 0, 3)):
                if thing not in ((0, 1), (1, 0)) or type(thing[0]) is bool:
                    self.assert_is_bool(False, in_shadow(book, thing))
        self.assert_is_bool(True, in_shadow(thing=(0, 1), book=("two", 2, ((1, 1),))))
        self.assert_is_bool(False, in_shadow(("two", 2, ((1, 1),)), (1, 1)))

    def test_calls_by_name(self):
        self.assertEqual(shadow_of(book=("two", 2, ((1, 1),))), ((0, 1), (1, 0)))
        self.assertEqual(shadow_counts(book=PAIRS), (0, 0, 4, 0, 0))
        self.assertEqual(shadow_sums(numbers=(1, 0, 1), n=2), (0, 4, 0))


class ShadowSums(BookCase):
    def test_sums_of_any_numbers(self):
        chance = random.Random("sums")
        for n in range(2, 49, 2):
            for top in (1, 30, 10 ** 59):
                numbers = tuple(chance.randint(-top, top) for _ in range(n + 1))
                found = shadow_sums(n, numbers)
                for j in (range(n + 1) if n < 15 else (0, 1, n // 2, n - 1, n)):
                    self.assertEqual(found[j], shadow_number(n, numbers, j))
                self.assertEqual(len(found), n + 1)
                even = tuple(0 if w % 2 else number for w, number in enumerate(numbers))
                self.assertEqual(found, shadow_sums(n, even))

    def test_bad_lengths(self):
        for n in NO_INTEGERS + tuple(range(1, 49, 2)) + (0, -2, 50, 52, 10 ** 99, True, False):
            self.assert_bears(errors.BadLength, n, shadow_sums, n, None)
            self.assert_bears(errors.BadLength, n, shadow_sums, numbers=(1, 0, 1), n=n)

    def test_bad_counts(self):
        for numbers in JUNK + ((1, 0), (1, 0, 0, 1), [1, 0, 1], (1, 0, True), (True, 0, 1), (1, None, 1), (1, "0", 1)):
            self.assert_bears(errors.BadCounts, numbers, shadow_sums, 2, numbers)
            self.assert_bears(errors.BadCounts, numbers, shadow_sums, numbers=numbers, n=2)
        for n in range(2, 49, 2):
            for numbers in ((0,) * n, (0,) * (n + 2), [0] * (n + 1)):
                self.assert_bears(errors.BadCounts, numbers, shadow_sums, n, numbers)


class Wrong(BookCase):
    def check(self, error, borne, book):
        for function in (shadow_of, shadow_counts):
            self.assert_bears(error, borne, function, book)
            self.assert_bears(error, borne, function, book=book)
        for thing in (None, (0, 1), ["thing"]):
            self.assert_bears(error, borne, in_shadow, book, thing)

    def test_bad_books(self):
        for book in JUNK:
            self.check(errors.BadBook, book, book)

    def test_other_kinds(self):
        for book in (TETRA, RING, HEXA, OCTA, whole_book("ring", 2), nought_book("three", 3)):
            self.check(errors.OtherKind, book, book)

    def test_not_own(self):
        for n in (1, 2, 3, 4):
            for book, rows in books_with_rows("two", n):
                if not is_own(book):
                    def is_right(thing):
                        return is_right_own("two", n, rows, thing) and thing != ("own",)
                    self.check_certificate(errors.NotOwn, shadow_of, book, is_right)
                    self.check_certificate(errors.NotOwn, shadow_counts, book, is_right)
                    self.check_certificate(errors.NotOwn, in_shadow, book, is_right, None)


if __name__ == "__main__":
    unittest.main()
