import itertools
import random
import unittest

from ownpartners import errors
from ownpartners.books import book_of, nought_book, rows_of, whole_book
from ownpartners.counts import counts_of, euclid_counts, least_weight, lee_counts, mark_counts, split_counts
from tests import reference
from tests.cases import BOOKS, HEXA, JUNK, PAIRS, RING, TETRA, BookCase

SMALL = (("two", 1), ("two", 3), ("three", 2), ("four", 2), ("ring", 1), ("ring", 2))


def large_books():
    """Books of up to 16 places, with up to 4,096 rows."""
    for kind, most in (("two", 12), ("three", 7), ("four", 6), ("ring", 6)):
        chance = random.Random("counts " + kind)
        for _ in range(4):
            n = chance.randint(most, 16)
            rows = [(0,) * k + (1,) + (0,) * (most - 1 - k) for k in range(most)]
            rows = [row + tuple(chance.randrange(reference.SIZES[kind]) for _ in range(n - most)) for row in rows]
            yield book_of(kind, n, tuple(rows[:chance.randint(1, most)]))
    yield whole_book("two", 12)
    yield whole_book("four", 6)
    yield whole_book("ring", 6)
    yield book_of("ring", 16, tuple((0,) * k + (2,) + (0,) * (11 - k) + (2 * (k % 2), 0, 2, 0) for k in range(12)))
    yield book_of("ring", 16, ((2, 1, 1, 0) * 4, (0, 2, 1, 3) * 4, (1, 1, 2, 2) * 4))


def small_books():
    for kind, n in SMALL:
        for makers, _ in reference.closed_sets(kind, n):
            yield book_of(kind, n, makers)


def numbers_by(weights, most):
    weights = list(weights)
    return tuple(weights.count(w) for w in range(most + 1))


EVERY_BOOK = tuple(small_books()) + BOOKS + tuple(large_books())


class Counts(BookCase):
    def test_counts(self):
        for book in EVERY_BOOK:
            rows = rows_of(book)
            counts = counts_of(book)
            self.assertIs(type(counts), tuple)
            self.assertEqual(counts, numbers_by(map(reference.weight, rows), book[1]))

    def test_least_weights(self):
        for book in EVERY_BOOK:
            weights = [reference.weight(row) for row in rows_of(book) if any(row)]
            self.assertEqual(least_weight(book), min(weights) if weights else None)
        for kind in reference.KINDS:
            self.assertIsNone(least_weight(nought_book(kind, 16)))
            self.assertEqual(least_weight((kind, 16, ((1,) * 16,))), 16)

    def check_split(self, book, places):
        n, p = book[1], len(places)
        rest = [place for place in range(n) if place not in places]
        due = [[0] * (n - p + 1) for _ in range(p + 1)]
        for row in rows_of(book):
            due[sum(1 for k in places if row[k])][sum(1 for k in rest if row[k])] += 1
        self.assertEqual(split_counts(book, places), tuple(map(tuple, due)))

    def test_split_counts(self):
        for book in tuple(small_books()) + BOOKS:
            n = book[1]
            for p in range(n + 1):
                for places in itertools.combinations(range(n), p):
                    self.check_split(book, places)

    def test_split_counts_of_many_rows(self):
        chance = random.Random("split")
        for book in large_books():
            n = book[1]
            for p in (0, 1, n // 2, n):
                self.check_split(book, tuple(sorted(chance.sample(range(n), p))))

    def test_split_counts_at_no_places_and_at_all(self):
        for book in BOOKS:
            counts = counts_of(book)
            self.assertEqual(split_counts(book, ()), (counts,))
            self.assertEqual(split_counts(places=tuple(range(book[1])), book=book),
                             tuple((number,) for number in counts))

    def test_counts_of_ring(self):
        for book in EVERY_BOOK:
            if book[0] != "ring":
                continue
            rows, n = rows_of(book), book[1]
            self.assertEqual(lee_counts(book), numbers_by(map(reference.lee, rows), 2 * n))
            self.assertEqual(euclid_counts(book), numbers_by(map(reference.euclid, rows), 4 * n))
            numbers = {}
            for row in rows:
                key = (row.count(0), row.count(1) + row.count(3), row.count(2))
                numbers[key] = numbers.get(key, 0) + 1
            self.assertEqual(mark_counts(book), tuple(sorted(key + (number,) for key, number in numbers.items())))

    def test_few_rows_of_ring(self):
        self.assertEqual(lee_counts(("ring", 1, ())), (1, 0, 0))
        self.assertEqual(euclid_counts(("ring", 1, ((1,),))), (1, 2, 0, 0, 1))
        self.assertEqual(mark_counts(("ring", 1, ((1,),))), ((0, 0, 1, 1), (0, 1, 0, 2), (1, 0, 0, 1)))

    def test_calls_by_name(self):
        self.assertEqual(counts_of(book=TETRA), (1, 0, 0, 8, 0))
        self.assertEqual(least_weight(book=TETRA), 3)
        self.assertEqual(split_counts(places=(0, 1), book=TETRA), ((1, 0, 0), (0, 0, 4), (0, 4, 0)))
        self.assertEqual(lee_counts(book=RING), (1, 0, 0, 0, 14, 0, 0, 0, 1))
        self.assertEqual(sum(euclid_counts(book=RING)), 16)
        self.assertEqual(mark_counts(book=RING)[0], (0, 0, 4, 1))


class WrongCounts(BookCase):
    def test_bad_books(self):
        for book in JUNK:
            with self.subTest(book=book):
                for function in (counts_of, least_weight, lee_counts, euclid_counts, mark_counts):
                    self.assert_bears(errors.BadBook, book, function, book)
                self.assert_bears(errors.BadBook, book, split_counts, book, ())
                self.assert_bears(errors.BadBook, book, split_counts, places=None, book=book)

    def test_other_kinds(self):
        for book in (TETRA, PAIRS, HEXA, ("four", 1, ()), ("two", 4, ())):
            for function in (lee_counts, euclid_counts, mark_counts):
                self.assert_bears(errors.OtherKind, book, function, book)
                self.assert_bears(errors.OtherKind, book, function, book=book)

    def test_bad_places(self):
        for book in (TETRA, RING, PAIRS):
            for places in JUNK + ((1, 0), (1, 1), (0, 4), (4,), (-1,), (0, True), (False,), [0], [], None, 0, ((0,),),
                                  (0, 1, 2, 3, 4), (0, 1, 2, 2), ("0",)):
                with self.subTest(places=places):
                    self.assert_bears(errors.BadPlaces, places, split_counts, book, places)


if __name__ == "__main__":
    unittest.main()
