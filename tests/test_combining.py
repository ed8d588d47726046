import itertools
import random
import unittest

from ownpartners import errors
from ownpartners.books import book_of, has_row, how_many, is_book, is_within, nought_book, rows_of, whole_book
from ownpartners.combining import beside, joined, partner_of, shared, shortened, thinned
from tests import reference
from tests.cases import BOOKS, HEXA, JUNK, PAIRS, RING, TETRA, BookCase

SMALL = (("two", 1), ("two", 2), ("two", 3), ("three", 1), ("three", 2), ("three", 3), ("four", 1), ("four", 2),
         ("four", 3), ("ring", 1), ("ring", 2), ("ring", 3))

PAIRED = (("two", 3), ("three", 2), ("four", 2), ("ring", 2))


def small_books(kind, n):
    return [book_of(kind, n, makers) for makers, _ in reference.closed_sets(kind, n)]


def random_book(chance, kind, n):
    rows = reference.some_rows(chance, kind, n, chance.randint(0, 9))
    if kind == "ring":
        rows = tuple(reference.times_row(kind, chance.choice((1, 2, 2)), row) for row in rows)
    return book_of(kind, n, rows)


def random_books(kind, number, most=16):
    chance = random.Random("books " + kind)
    for _ in range(number):
        yield random_book(chance, kind, chance.randint(1, most))


def random_pairs(kind, number, least=1):
    chance = random.Random("pairs " + kind)
    for _ in range(number):
        n = chance.randint(least, 16)
        yield random_book(chance, kind, n), random_book(chance, kind, n)


def some_places(chance, n):
    return tuple(sorted(chance.sample(range(n), chance.randint(0, n - 1))))


def all_places(n):
    """All ascending tuples of places but the one that has all."""
    return [places for many in range(n) for places in itertools.combinations(range(n), many)]


def without(row, places):
    return tuple(mark for place, mark in enumerate(row) if place not in places)


class Partners(BookCase):
    def test_partners_have_just_the_rows_that_meet_all_in_0(self):
        for kind, n in SMALL + (("two", 4),):
            for makers, made in reference.closed_sets(kind, n):
                book = book_of(kind, n, makers)
                partner = partner_of(book)
                self.assertTrue(is_book(partner))
                self.assertEqual(partner[:2], (kind, n))
                self.assertEqual(set(rows_of(partner)), reference.partner_rows(kind, n, made))
                for x, y in itertools.product(partner[2], book[2]):
                    self.assertEqual((reference.meet(kind, x, y), reference.meet(kind, y, x)), (0, 0))
                self.assertEqual(how_many(book) * how_many(partner), reference.SIZES[kind] ** n)
                self.assertEqual(partner_of(partner), book)

    def test_partners_up_to_16_places(self):
        for kind in reference.KINDS:
            for book in random_books(kind, 60):
                partner = partner_of(book)
                self.assertTrue(is_book(partner))
                for x, y in itertools.product(partner[2], book[2]):
                    self.assertEqual(reference.meet(kind, x, y), 0)
                self.assertEqual(how_many(book) * how_many(partner), reference.SIZES[kind] ** book[1])
                self.assertEqual(partner_of(partner), book)

    def test_partners_of_whole_and_nought_books(self):
        for kind in reference.KINDS:
            for n in range(1, 17):
                self.assertEqual(partner_of(whole_book(kind, n)), nought_book(kind, n))
                self.assertEqual(partner_of(nought_book(kind, n)), whole_book(kind, n))

    def test_own_partners(self):
        for book in (TETRA, RING, PAIRS, HEXA, ("ring", 1, ((2,),)), ("four", 2, ((1, 2),))):
            self.assertEqual(partner_of(book=book), book)
        self.assertEqual(partner_of(("four", 2, ((1, 0),))), ("four", 2, ((0, 1),)))

    def test_partners_of_four_use_turned_marks(self):
        self.assertEqual(partner_of(("four", 3, ((1, 2, 3),))), ("four", 3, ((1, 0, 3), (0, 1, 2))))
        for row in rows_of(partner_of(("four", 3, ((1, 2, 3),)))):
            self.assertEqual(reference.meet("four", row, (1, 2, 3)), 0)

    def check_rules(self, one, other, places, third):
        self.assertEqual(partner_of(joined(one, other)), shared(partner_of(one), partner_of(other)))
        self.assertEqual(partner_of(shared(one, other)), joined(partner_of(one), partner_of(other)))
        self.assertEqual(partner_of(thinned(one, places)), shortened(partner_of(one), places))
        self.assertEqual(partner_of(shortened(one, places)), thinned(partner_of(one), places))
        if one[1] + third[1] <= 16:
            self.assertEqual(partner_of(beside(one, third)), beside(partner_of(one), partner_of(third)))

    def test_rules_of_partners(self):
        for kind, n in PAIRED:
            thirds = small_books(kind, 1)
            for k, (one, other) in enumerate(itertools.product(small_books(kind, n), repeat=2)):
                self.check_rules(one, other, all_places(n)[k % (2 ** n - 1)], thirds[k % len(thirds)])

    def test_rules_of_partners_up_to_16_places(self):
        for kind in reference.KINDS:
            chance = random.Random("rules " + kind)
            for one, other in random_pairs(kind, 40):
                third = random_book(chance, kind, chance.randint(1, 8))
                self.check_rules(one, other, some_places(chance, one[1]), third)


class Combining(BookCase):
    def check_pair(self, one, other):
        kind, n, _ = one
        first, second = reference.closure(*one), reference.closure(*other)
        join, both = joined(one, other), shared(one, other)
        self.assertTrue(is_book(join) and is_book(both))
        self.assertEqual(set(rows_of(both)), first & second)
        self.assertEqual(set(rows_of(join)), reference.closure(kind, n, one[2] + other[2]))

    def test_joined_and_shared(self):
        for kind, n in PAIRED:
            for one, other in itertools.product(small_books(kind, n), repeat=2):
                self.check_pair(one, other)

    def test_joined_and_shared_of_three_marks_of_ring(self):
        chance = random.Random("three marks")
        books = small_books("ring", 3)
        for _ in range(300):
            self.check_pair(chance.choice(books), chance.choice(books))

    def test_joined_and_shared_up_to_16_places(self):
        for kind in reference.KINDS:
            for one, other in random_pairs(kind, 60, least=8):
                join, both = joined(one, other), shared(one, other)
                self.assertTrue(is_book(join) and is_book(both))
                self.assertEqual(how_many(join) * how_many(both), how_many(one) * how_many(other))
                for book in (one, other):
                    self.assertTrue(is_within(book, join))
                    self.assertTrue(is_within(both, book))
                self.assertEqual((joined(other, one), shared(other, one)), (join, both))

    def test_beside(self):
        for kind, n in PAIRED:
            chance = random.Random("beside " + kind)
            for one in small_books(kind, n):
                other = chance.choice(small_books(kind, 2))
                book = beside(one, other)
                self.assertTrue(is_book(book))
                self.assertEqual(book[:2], (kind, n + 2))
                due = [x + y for x, y in itertools.product(rows_of(one), rows_of(other))]
                self.assertEqual(rows_of(book), tuple(sorted(due)))

    def test_beside_up_to_16_places(self):
        for kind in reference.KINDS:
            book = beside(whole_book(kind, 7), nought_book(kind, 9))
            self.assertEqual(book[1], 16)
            self.assertTrue(is_book(book))
            self.assertEqual(how_many(book), reference.SIZES[kind] ** 7)
            self.assertEqual(beside(other=whole_book(kind, 8), one=whole_book(kind, 8)), whole_book(kind, 16))

    def check_places(self, book, places):
        kind, n, _ = book
        rows = rows_of(book)
        thin, short = thinned(book, places), shortened(book, places)
        self.assertTrue(is_book(thin) and is_book(short))
        self.assertEqual((thin[:2], short[:2]), ((kind, n - len(places)),) * 2)
        self.assertEqual(set(rows_of(thin)), {without(row, places) for row in rows})
        kept = {without(row, places) for row in rows if not any(row[place] for place in places)}
        self.assertEqual(set(rows_of(short)), kept)

    def test_thinned_and_shortened(self):
        for kind, n in SMALL:
            for book in small_books(kind, n):
                for places in all_places(n):
                    self.check_places(book, places)

    def test_thinned_and_shortened_up_to_16_places(self):
        for kind in reference.KINDS:
            chance = random.Random("places " + kind)
            for book in random_books(kind, 40):
                if how_many(book) <= 4096:
                    self.check_places(book, some_places(chance, book[1]))

    def test_no_places_change_nothing(self):
        for book in BOOKS:
            self.assertEqual(thinned(book, ()), book)
            self.assertEqual(shortened(places=(), book=book), book)

    def test_calls_by_name(self):
        self.assertEqual(joined(other=("two", 1, ()), one=("two", 1, ((1,),))), ("two", 1, ((1,),)))
        self.assertEqual(shared(other=("two", 1, ()), one=("two", 1, ((1,),))), ("two", 1, ()))
        self.assertEqual(beside(other=("two", 1, ()), one=("two", 1, ((1,),))), ("two", 2, ((1, 0),)))
        self.assertEqual(thinned(places=(3,), book=TETRA), ("three", 3, ((1, 0, 1), (0, 1, 1))))
        self.assertEqual(shortened(places=(3,), book=TETRA), ("three", 3, ((1, 1, 2),)))
        self.assertTrue(has_row(thinned(places=(0, 1), book=HEXA), (1, 1, 1, 1)))


class WrongBooks(BookCase):
    def test_bad_books(self):
        for book in JUNK:
            with self.subTest(book=book):
                self.assert_bears(errors.BadBook, book, partner_of, book)
                for function in (joined, shared, beside):
                    self.assert_bears(errors.BadBook, book, function, book, TETRA)
                    self.assert_bears(errors.BadBook, book, function, TETRA, book)
                for function in (thinned, shortened):
                    self.assert_bears(errors.BadBook, book, function, book, (0,))
                    self.assert_bears(errors.BadBook, book, function, places=None, book=book)

    def test_the_first_bad_book_is_borne(self):
        for function in (joined, shared, beside):
            one, other = ["one"], ["other"]
            self.assert_bears(errors.BadBook, one, function, one, other)
            self.assert_bears(errors.BadBook, one, function, other=other, one=one)
            self.assert_bears(errors.BadBook, other, function, RING, other)

    def test_other_kinds_come_ahead_of_other_lengths(self):
        for one, other in itertools.permutations((TETRA, RING, PAIRS, HEXA), 2):
            for function in (joined, shared, beside):
                self.assert_bears(errors.OtherKind, other, function, one, other)

    def test_other_lengths(self):
        for kind in reference.KINDS:
            short, long = nought_book(kind, 2), whole_book(kind, 3)
            for function in (joined, shared):
                self.assert_bears(errors.OtherLength, long, function, short, long)
                self.assert_bears(errors.OtherLength, short, function, other=short, one=long)

    def test_too_long(self):
        for kind in reference.KINDS:
            self.assert_bare(errors.TooLong, beside, whole_book(kind, 9), whole_book(kind, 8))
            self.assert_bare(errors.TooLong, beside, nought_book(kind, 1), nought_book(kind, 16))
        ring = nought_book("ring", 16)
        self.assert_bears(errors.OtherKind, ring, beside, nought_book("four", 16), ring)

    def test_bad_places(self):
        for book in (TETRA, RING, PAIRS):
            for places in JUNK + ((0, 1, 2, 3), (1, 0), (1, 1), (0, 4), (4,), (-1,), (0, True), (False,), [0], [], None,
                                  (0, 1, 2, 2), (0, 1, 2, 3, 4), 0, ((0,),), ("0",)):
                with self.subTest(places=places):
                    self.assert_bears(errors.BadPlaces, places, thinned, book, places)
                    self.assert_bears(errors.BadPlaces, places, shortened, places=places, book=book)
        for function in (thinned, shortened):
            self.assert_bears(errors.BadPlaces, (0,), function, ("two", 1, ((1,),)), (0,))


if __name__ == "__main__":
    unittest.main()
