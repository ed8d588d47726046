import itertools
import random
import unittest
from fractions import Fraction
from math import comb

from ownpartners import errors
from ownpartners.books import book_of, how_many, nought_book, whole_book
from ownpartners.combining import partner_of
from ownpartners.counts import counts_of, lee_counts, split_counts
from ownpartners.partnercounts import column_of, partner_counts, partner_lee_counts, partner_split
from tests import reference
from tests.cases import BOOKS, JUNK, NO_INTEGERS, BookCase

SMALL = (("two", 1), ("two", 3), ("three", 1), ("three", 3), ("four", 1), ("four", 2), ("ring", 1), ("ring", 2))


def told(q, n, j, w):
    """K(j, w), as [3.2] has it."""
    return sum((-1) ** s * (q - 1) ** (j - s) * comb(w, s) * comb(n - w, j - s) for s in range(j + 1))


def fractions(q, numbers):
    n = len(numbers) - 1
    return [Fraction(sum(numbers[w] * told(q, n, j, w) for w in range(n + 1)), sum(numbers)) for j in range(n + 1)]


def split_fractions(q, numbers):
    p, m = len(numbers) - 1, len(numbers[0]) - 1
    parts = sum(map(sum, numbers))
    return {(i, j): Fraction(sum(numbers[v][w] * told(q, p, i, v) * told(q, m, j, w)
                                 for v in range(p + 1) for w in range(m + 1)), parts)
            for i in range(p + 1) for j in range(m + 1)}


def is_whole(number):
    return number.denominator == 1 and number >= 0


def small_books():
    for kind, n in SMALL:
        for makers, _ in reference.closed_sets(kind, n):
            yield book_of(kind, n, makers)


def halves():
    """Books with up to 4,096 rows whose partners have no more."""
    for kind, most in (("two", 16), ("three", 13), ("four", 10), ("ring", 10)):
        chance = random.Random("halves " + kind)
        for n in range(4, most + 1, 3):
            many = n // 2
            rows = [(0,) * k + (1,) + (0,) * (many - 1 - k) for k in range(many)]
            rows = [row + tuple(chance.randrange(reference.SIZES[kind]) for _ in range(n - many)) for row in rows]
            if kind == "ring":
                rows[0] = reference.times_row(kind, 2, rows[0])
            yield book_of(kind, n, tuple(rows))


EVERY_BOOK = tuple(small_books()) + BOOKS + tuple(halves())


class Columns(BookCase):
    def test_columns(self):
        for kind in reference.KINDS:
            q = reference.SIZES[kind]
            for n in range(1, 17):
                for w in range(n + 1):
                    due = tuple(told(q, n, j, w) for j in range(n + 1))
                    self.assertEqual(column_of(kind, n, w), due)
        self.assertEqual(column_of(weight=1, n=1, kind="four"), (1, -1))
        self.assertEqual(column_of("ring", 1, 0), (1, 3))


class PartnerNumbers(BookCase):
    def test_counts_of_partners(self):
        for book in EVERY_BOOK:
            kind, n, _ = book
            self.assertEqual(partner_counts(kind, n, counts_of(book)), counts_of(partner_of(book)))

    def test_lee_counts_of_partners(self):
        for book in EVERY_BOOK:
            if book[0] == "ring":
                self.assertEqual(partner_lee_counts(book[1], lee_counts(book)), lee_counts(partner_of(book)))

    def test_split_counts_of_partners(self):
        chance = random.Random("split partners")
        for book in EVERY_BOOK:
            n, partner = book[1], partner_of(book)
            for p in sorted({0, n, chance.randint(0, n), chance.randint(0, n)}):
                places = tuple(sorted(chance.sample(range(n), p)))
                self.assertEqual(partner_split(book[0], split_counts(book, places)), split_counts(partner, places))

    def test_sums_of_counts_and_of_the_counts_of_the_partner(self):
        for book in EVERY_BOOK:
            q, n, number = reference.SIZES[book[0]], book[1], how_many(book)
            own, others = counts_of(book), counts_of(partner_of(book))
            for v in range(n + 1):
                self.assertEqual(sum(comb(n - w, v) * own[w] for w in range(n + 1)) * q ** v,
                                 number * sum(comb(n - w, n - v) * others[w] for w in range(n + 1)))

    def test_whole_books_of_16_places(self):
        for kind in reference.KINDS:
            q = reference.SIZES[kind]
            counts = tuple(comb(16, w) * (q - 1) ** w for w in range(17))
            self.assertEqual(partner_counts(kind, 16, counts), counts_of(nought_book(kind, 16)))
            self.assertEqual(partner_counts(kind, 16, counts_of(nought_book(kind, 16))), counts)
        lee = tuple(comb(32, w) for w in range(33))
        self.assertEqual(partner_lee_counts(16, lee), (1,) + (0,) * 32)
        self.assertEqual(partner_lee_counts(16, (1,) + (0,) * 32), lee)
        self.assertEqual(counts_of(whole_book("two", 8)), partner_counts("two", 8, (1,) + (0,) * 8))

    def check_numbers(self, due, function, *arguments):
        """The call gives the due fractions, or raises NotWhole with the first of them that is no count."""
        wrong = [j for j in range(len(due)) if not is_whole(due[j])]
        if wrong:
            self.assert_bears(errors.NotWhole, wrong[0], function, *arguments)
        else:
            self.assertEqual(function(*arguments), tuple(due))
        return bool(wrong)

    def test_all_small_numbers(self):
        for kind in reference.KINDS:
            q = reference.SIZES[kind]
            for n in (1, 2, 3):
                found = set()
                for rest in itertools.product(range(q ** n + 1 if n < 3 else 5), repeat=n):
                    numbers = (1,) + rest
                    found.add(self.check_numbers(fractions(q, numbers), partner_counts, kind, n, numbers))
                self.assertEqual(found, {True, False})

    def test_all_small_lee_numbers(self):
        for rest in itertools.product(range(6), repeat=4):
            numbers = (1,) + rest
            self.check_numbers(fractions(2, numbers), partner_lee_counts, 2, numbers)

    def test_numbers_up_to_10_to_the_12(self):
        chance = random.Random("large numbers")
        for kind in reference.KINDS:
            for n in range(1, 17):
                for top in (10, 10 ** 6, 10 ** 12):
                    numbers = (1,) + tuple(chance.choice((0, chance.randint(0, top), top)) for _ in range(n))
                    self.check_numbers(fractions(reference.SIZES[kind], numbers), partner_counts, kind, n, numbers)
                    numbers += tuple(chance.randint(0, top) for _ in range(n))
                    self.check_numbers(fractions(2, numbers), partner_lee_counts, n, numbers)

    def test_numbers_below_0_are_not_whole(self):
        self.assertEqual(fractions(2, (1, 3)), [1, Fraction(-1, 2)])
        self.assertEqual(fractions(3, (1, 0, 0, 8)), [1, Fraction(-2, 1), 4, 0])
        self.assert_bears(errors.NotWhole, 1, partner_counts, "three", 3, (1, 0, 0, 8))
        self.assert_bears(errors.NotWhole, 2, partner_counts, "two", 2, (1, 3, 1))

    def test_the_least_place_is_told(self):
        seen = set()
        for kind in reference.KINDS:
            for numbers in itertools.product((1,), (0, 1, 2), (0, 1, 3), (0, 1, 9), (0, 1)):
                due = fractions(reference.SIZES[kind], numbers)
                wrong = [j for j in range(5) if not is_whole(due[j])]
                seen.update(wrong[:1])
                self.check_numbers(due, partner_counts, kind, 4, numbers)
        self.assertGreaterEqual(seen, {1, 2})

    def test_numbers_that_no_book_has_may_be_whole(self):
        self.assertEqual(partner_counts("two", 3, (1, 1, 0, 0)), (1, 2, 1, 0))
        self.assertEqual(partner_counts(numbers=(1, 0, 0, 1), n=3, kind="two"), (1, 0, 3, 0))
        self.assertEqual(partner_lee_counts(numbers=(1, 0, 1), n=1), (1, 0, 1))


class PartnerSplit(BookCase):
    def check_split(self, kind, numbers):
        due = split_fractions(reference.SIZES[kind], numbers)
        wrong = sorted(pair for pair in due if not is_whole(due[pair]))
        if wrong:
            self.assert_bears(errors.NotWhole, wrong[0], partner_split, kind, numbers)
        else:
            p, m = len(numbers) - 1, len(numbers[0]) - 1
            lines = tuple(tuple(due[i, j] for j in range(m + 1)) for i in range(p + 1))
            self.assertEqual(partner_split(kind, numbers), lines)
        return wrong[:1]

    def test_small_numbers(self):
        for kind in reference.KINDS:
            seen = set()
            for a, b, c in itertools.product(range(10), repeat=3):
                seen.update(self.check_split(kind, ((1, a), (b, c))))
                seen.add(None)
            self.assertGreaterEqual(seen, {(0, 1), (1, 0), None})
            for rest in itertools.product(range(3), repeat=5):
                self.check_split(kind, ((1,) + rest[:2], rest[2:]))
                self.check_split(kind, ((1, rest[0]), rest[1:3], rest[3:]))

    def test_the_first_pair_is_told(self):
        seen = set()
        chance = random.Random("first pair")
        for _ in range(2000):
            values = [chance.choice((0, 0, 0, 1, 2, 3)) for _ in range(5)]
            seen.update(self.check_split("two", ((1, values[0], values[1]), tuple(values[2:]))))
        self.assertGreaterEqual(seen, {(0, 1), (0, 2), (1, 0)})

    def test_one_place_set(self):
        for book in BOOKS:
            counts = counts_of(book)
            due = partner_counts(book[0], book[1], counts)
            self.assertEqual(partner_split(book[0], (counts,)), (due,))
            self.assertEqual(partner_split(numbers=tuple((number,) for number in counts), kind=book[0]),
                             tuple((number,) for number in due))

    def test_16_places(self):
        for kind in reference.KINDS:
            q = reference.SIZES[kind]
            for p in (0, 1, 5, 8, 16):
                whole = tuple(tuple(comb(p, v) * comb(16 - p, w) * (q - 1) ** (v + w) for w in range(17 - p))
                              for v in range(p + 1))
                nought = tuple(tuple(int(v == w == 0) for w in range(17 - p)) for v in range(p + 1))
                self.assertEqual(partner_split(kind, whole), nought)
                self.assertEqual(partner_split(kind, nought), whole)
                large = tuple(tuple(10 ** 12 - number for number in line) for line in whole[1:])
                self.check_split(kind, whole[:1] + large)


class WrongNumbers(BookCase):
    def test_bad_kinds_come_first(self):
        for kind in JUNK:
            if kind == "two":
                continue
            with self.subTest(kind=kind):
                self.assert_bears(errors.BadKind, kind, column_of, kind, 0, -1)
                self.assert_bears(errors.BadKind, kind, partner_counts, kind, 0, None)
                self.assert_bears(errors.BadKind, kind, partner_split, kind, None)
                self.assert_bears(errors.BadKind, kind, partner_split, numbers=((1, 0), (0, 1)), kind=kind)

    def test_bad_lengths(self):
        for n in NO_INTEGERS + (0, 17, -1, 10 ** 50):
            with self.subTest(n=n):
                for kind in reference.KINDS:
                    self.assert_bears(errors.BadLength, n, column_of, kind, n, -1)
                    self.assert_bears(errors.BadLength, n, partner_counts, kind, n, None)
                self.assert_bears(errors.BadLength, n, partner_lee_counts, n, None)
                self.assert_bears(errors.BadLength, n, partner_lee_counts, numbers=(1, 0, 0), n=n)

    def test_bad_weights(self):
        for kind in reference.KINDS:
            for weight in NO_INTEGERS + (-1, 4, 10 ** 50):
                self.assert_bears(errors.BadNumber, weight, column_of, kind, 3, weight)
        self.assert_bears(errors.BadNumber, 17, column_of, weight=17, n=16, kind="two")

    def test_bad_counts(self):
        for kind in reference.KINDS:
            for numbers in JUNK + ((1,), (1, 0), (1, 0, 0, 0), (0, 1, 1), (2, 0, 0), (1, -1, 0), (1, True, 0),
                                   (True, 0, 0), [1, 0, 0], (1, 0, None), (1, "0", 0), (1, 0, (0,)), (), (-1, 0, 0)):
                with self.subTest(kind=kind, numbers=numbers):
                    self.assert_bears(errors.BadCounts, numbers, partner_counts, kind, 2, numbers)
        for numbers in JUNK + ((1, 0), (1, 0, 0, 0), (0, 1, 1), (2, 0, 0), (1, -1, 0), (1, True, 0), (True, 0, 0),
                               [1, 0, 0], (1, 0, None), ()):
            with self.subTest(numbers=numbers):
                self.assert_bears(errors.BadCounts, numbers, partner_lee_counts, 1, numbers)

    def test_bad_split_counts(self):
        for kind in reference.KINDS:
            for numbers in JUNK + (
                    (), ((),), ((), ()), ((), (), ()), ((),) * 9, (1, (0, 1)), (None, (0, 1)), ((1,),), ((1, 0), ()), ((1, 0), (0,)), ((1, 0), (0, 1, 0)), ((0, 1), (0, 1)),
                    ((2, 0), (0, 1)), ((1, 0), (0, -1)), ((1, 0), (0, True)), ((True, 0), (0, 1)), ((1, 0), [0, 1]),
                    [(1, 0), (0, 1)], ([1, 0], (0, 1)), ((1, 0), None), ((1, 0), (0, None)), (1, 0), ((1, 0), 1),
                    ((1,),) + ((0,),) * 17, ((1,) + (0,) * 17,), ((1,) + (0,) * 8,) + ((0,) * 9,) * 9,
                    ((1,) + (0,) * 9,) + ((0,) * 10,) * 8):
                with self.subTest(kind=kind, numbers=numbers):
                    self.assert_bears(errors.BadCounts, numbers, partner_split, kind, numbers)
            for numbers in (((1,),) + ((0,),) * 16, ((1,) + (0,) * 16,), ((1,) + (0,) * 8,) + ((0,) * 9,) * 8):
                self.assertEqual(sum(map(sum, partner_split(kind, numbers))), reference.SIZES[kind] ** 16)

    def test_bad_counts_come_ahead_of_not_whole(self):
        numbers = (1, 0, 0, 2, 0)
        self.assert_bears(errors.BadCounts, numbers, partner_counts, "two", 3, numbers)
        self.assert_bears(errors.NotWhole, 1, partner_counts, "two", 3, (1, 0, 0, 2))
        self.assert_bears(errors.NotWhole, 1, partner_lee_counts, 1, (1, 0, 2))
        self.assert_bears(errors.NotWhole, (0, 1), partner_split, "two", ((1, 1), (0, 1)))


if __name__ == "__main__":
    unittest.main()
