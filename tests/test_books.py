import itertools
import random
import unittest

from ownpartners import errors
from ownpartners.books import (book_of, has_row, how_many, is_book, is_within, nought_book, rows_of, whole_book)
from tests import reference
from tests.cases import BOOKS, HEXA, JUNK, NO_INTEGERS, PAIRS, RING, TETRA, BookCase

# How many closed sets there are: known numbers of subspaces, and of subgroups for "ring".
CLOSED_SETS = {("two", 3): 16, ("two", 4): 67, ("three", 2): 6, ("three", 3): 28, ("four", 2): 7, ("ring", 1): 3,
               ("ring", 2): 15, ("ring", 3): 129}

BIG = (
    book_of("two", 16, tuple((0,) * k + (1,) + (0,) * (11 - k) + (k % 2, 1, k // 2 % 2, 0) for k in range(12))),
    whole_book("four", 6),
    whole_book("ring", 6),
    book_of("ring", 16, tuple((1,) * k + (2,) + (1,) * (5 - k) + (0,) * 10 for k in range(6))),
    book_of("three", 16, tuple((k % 3, 1, 2) + (0,) * k + (1, k // 3 % 3) + (2,) * (11 - k) for k in range(7))),
)


class UniqueBases(BookCase):
    def test_rows_that_make_one_set_make_one_book(self):
        for (kind, n), number in CLOSED_SETS.items():
            with self.subTest(kind=kind, n=n):
                books = {}
                for makers, made in reference.makers_of_all_sets(kind, n):
                    book = book_of(kind, n, makers)
                    self.assertEqual(books.setdefault(made, book), book)
                self.assertEqual(len(books), number)
                self.assertEqual(len(set(books.values())), number)
                for made, book in books.items():
                    self.check_book_of_set(kind, n, made, book)

    def check_book_of_set(self, kind, n, made, book):
        self.assertEqual(book[:2], (kind, n))
        self.assertTrue(reference.is_plain(kind, n, book[2]))
        self.assert_is_bool(True, is_book(book))
        self.assertEqual(how_many(book), len(made))
        self.assertEqual(rows_of(book), tuple(sorted(made)))
        for row in reference.all_rows(kind, n):
            self.assert_is_bool(row in made, has_row(book, row))

    def test_long_rows_in_any_order_and_mixed_make_one_book(self):
        for kind in reference.KINDS:
            chance = random.Random("mixed " + kind)
            units = reference.UNITS[kind]
            for _ in range(40):
                n = chance.randint(5, 16)
                rows = list(reference.some_rows(chance, kind, n, chance.randint(1, 6)))
                if kind == "ring":
                    rows = [reference.times_row(kind, chance.choice((1, 1, 2)), row) for row in rows]
                book = book_of(kind, n, tuple(rows))
                self.assertTrue(is_book(book))
                for _ in range(12):
                    i, j = chance.randrange(len(rows)), chance.randrange(len(rows))
                    rows[i] = reference.times_row(kind, chance.choice(units), rows[i])
                    if i != j:
                        mark = chance.randrange(reference.SIZES[kind])
                        rows[i] = reference.add_rows(kind, rows[i], reference.times_row(kind, mark, rows[j]))
                chance.shuffle(rows)
                rows.append(reference.add_rows(kind, rows[0], rows[-1]))
                self.assertEqual(book_of(kind, n, tuple(rows)), book)
                self.assertEqual(book_of(kind, n, book[2]), book)

    def test_leads_of_ring(self):
        self.assertEqual(book_of("ring", 2, ((2, 1),)), ("ring", 2, ((2, 1), (0, 2))))
        self.assertEqual(book_of("ring", 2, ((2, 3),)), ("ring", 2, ((2, 1), (0, 2))))
        self.assertEqual(book_of("ring", 2, ((3, 2), (0, 2))), ("ring", 2, ((1, 0), (0, 2))))
        self.assertEqual(book_of("ring", 2, ((3, 1), (0, 2))), ("ring", 2, ((1, 1), (0, 2))))
        self.assertEqual(book_of("ring", 2, ((2, 0), (3, 0))), ("ring", 2, ((1, 0),)))
        self.assertEqual(book_of("ring", 3, ((2, 1, 1), (1, 0, 0))), ("ring", 3, ((1, 0, 0), (0, 1, 1))))
        self.assertEqual(book_of("ring", 3, ((2, 3, 1),)), ("ring", 3, ((2, 1, 3), (0, 2, 2))))


class Books(BookCase):
    def test_is_book_tells_plain_bases_from_all_others(self):
        for kind, n, most in (("two", 2, 3), ("two", 3, 3), ("three", 2, 2), ("four", 2, 2), ("ring", 1, 2),
                              ("ring", 2, 2), ("ring", 3, 2)):
            for many in range(most + 1):
                for basis in itertools.product(reference.all_rows(kind, n), repeat=many):
                    due = reference.is_plain(kind, n, basis)
                    self.assert_is_bool(due, is_book((kind, n, basis)))

    def test_is_book_with_three_rows_of_ring(self):
        chance = random.Random("three rows")
        seen = 0
        for _ in range(6000):
            leads = [chance.choice((1, 2)) for _ in range(3)]
            basis = tuple((0,) * k + (leads[k],) + tuple(chance.choice((0, 0, 1, 2)) for _ in range(3 - k))
                          for k in range(3))
            due = reference.is_plain("ring", 4, basis)
            seen += due
            self.assert_is_bool(due, is_book(("ring", 4, basis)))
        self.assertGreater(seen, 100)

    def test_bases_that_are_not_plain(self):
        for book in (
                ("two", 2, ((1, 1), (0, 1))), ("two", 2, ((0, 1), (1, 0))), ("two", 2, ((1, 0), (1, 0))),
                ("two", 2, ((0, 0),)), ("two", 2, ((1, 0), (0, 0))), ("three", 2, ((2, 0),)), ("four", 2, ((3, 1),)),
                ("ring", 2, ((3, 0),)), ("ring", 2, ((2, 1),)), ("ring", 2, ((1, 2), (0, 2))),
                ("ring", 2, ((1, 3), (0, 2))), ("ring", 2, ((1, 1), (0, 1))), ("ring", 2, ((2, 1), (0, 1))),
                ("ring", 3, ((2, 1, 0), (0, 0, 2))), ("ring", 3, ((2, 0, 1), (0, 2, 0)))):
            with self.subTest(book=book):
                self.assert_is_bool(False, is_book(book))
        for book in (("ring", 2, ((1, 1), (0, 2))), ("ring", 2, ((2, 0), (0, 2))), ("ring", 2, ((2, 0), (0, 1))),
                     ("ring", 3, ((2, 1, 1), (0, 2, 2))), ("ring", 3, ((2, 1, 0), (0, 2, 0), (0, 0, 1)))):
            with self.subTest(book=book):
                self.assert_is_bool(True, is_book(book))

    def test_no_value_of_the_wrong_sort_is_a_book(self):
        for value in JUNK:
            self.assert_is_bool(False, is_book(value))
        for book in BOOKS:
            kind, n, basis = book
            self.assert_is_bool(True, is_book(thing=book))
            for value in (list(book), (kind, n), book + (0,), (kind, n, list(basis)), (kind, str(n), basis),
                          (kind, n + 1, basis + ((1,) * n,)), (n, kind, basis), (kind, basis, n), (kind, 0, ()),
                          (kind, 17, ()), (kind, -n, basis), ([kind], n, basis), (kind, n, basis * 2 + ((0,) * n,))):
                self.assert_is_bool(False, is_book(value))

    def test_lengths_1_and_16(self):
        for kind in reference.KINDS:
            q = reference.SIZES[kind]
            self.assertEqual(whole_book(kind, 1), (kind, 1, ((1,),)))
            self.assertEqual(rows_of(whole_book(kind, 1)), tuple((mark,) for mark in range(q)))
            self.assertEqual(how_many(whole_book(kind, 16)), q ** 16)
            self.assertEqual(book_of(kind, 16, ((1,) * 16,)), (kind, 16, ((1,) * 16,)))
            self.assertEqual(book_of(kind, 1, ((0,), (1,))), whole_book(kind, 1))
            self.assert_is_bool(True, has_row(whole_book(kind, 16), (q - 1,) * 16))
            self.assert_is_bool(True, is_book(whole_book(kind, 16)))
        self.assertEqual(book_of("ring", 1, ((2,),)), ("ring", 1, ((2,),)))

    def test_whole_and_nought_books(self):
        for kind in reference.KINDS:
            for n in range(1, 17):
                self.assertEqual(nought_book(kind, n), (kind, n, ()))
                self.assertEqual(rows_of(nought_book(kind, n)), ((0,) * n,))
                self.assertEqual(how_many(nought_book(kind, n)), 1)
                self.assertEqual(how_many(whole_book(kind, n)), reference.SIZES[kind] ** n)
                self.assertEqual(book_of(kind, n, ()), nought_book(kind, n))
            self.assertEqual(set(rows_of(whole_book(kind, 2))), set(reference.all_rows(kind, 2)))

    def test_64_rows_and_65(self):
        for kind in reference.KINDS:
            rows = tuple((0,) * 15 + (k % 2,) for k in range(64))
            self.assertEqual(book_of(kind, 16, rows), (kind, 16, ((0,) * 15 + (1,),)))
            more = rows + rows[:1]
            self.assert_bears(errors.BadRows, more, book_of, kind, 16, more)

    def test_rows_are_ascending_up_to_4096(self):
        numbers = [how_many(book) for book in BIG]
        self.assertEqual(numbers[:3], [4096] * 3)
        for book, number in zip(BIG, numbers):
            rows = rows_of(book)
            self.assertIs(type(rows), tuple)
            self.assertEqual(len(rows), number)
            self.assertEqual(list(rows), sorted(reference.closure(*book)))

    def test_rows_of_ring_are_ascending_with_the_lead_2(self):
        self.assertEqual(rows_of(("ring", 2, ((1, 1), (0, 2)))),
                         ((0, 0), (0, 2), (1, 1), (1, 3), (2, 0), (2, 2), (3, 1), (3, 3)))

    def test_has_row(self):
        for book in BOOKS + BIG:
            kind, n, _ = book
            chance = random.Random(repr(book))
            made = reference.closure(*book)
            for row in reference.some_rows(chance, kind, n, 100) + tuple(sorted(made))[:100]:
                self.assert_is_bool(row in made, has_row(book, row))
            for value in JUNK + ((0,) * (n + 1), (0,) * (n - 1), [0] * n, (False,) * n, (0,) * (n - 1) + (4,)):
                self.assert_is_bool(False, has_row(book, value))
        self.assert_is_bool(False, has_row(whole_book("two", 2), (2, 0)))
        self.assert_is_bool(False, has_row(whole_book("three", 2), (3, 0)))

    def test_is_within(self):
        for kind, n in (("two", 3), ("three", 2), ("four", 2), ("ring", 2)):
            books = {book_of(kind, n, makers) for makers in itertools.product(reference.all_rows(kind, n), repeat=2)}
            for one, other in itertools.product(sorted(books), repeat=2):
                due = set(rows_of(one)) <= set(rows_of(other))
                self.assert_is_bool(due, is_within(one, other))
        self.assert_is_bool(True, is_within(other=whole_book("ring", 16), one=nought_book("ring", 16)))
        self.assert_is_bool(False, is_within(other=nought_book("ring", 16), one=whole_book("ring", 16)))

    def test_calls_by_name(self):
        self.assertEqual(book_of(rows=((1, 1),), n=2, kind="two"), ("two", 2, ((1, 1),)))
        self.assertEqual(whole_book(n=1, kind="two"), ("two", 1, ((1,),)))
        self.assertEqual(nought_book(n=1, kind="two"), ("two", 1, ()))
        self.assertEqual(how_many(book=TETRA), 9)
        self.assertEqual(rows_of(book=("two", 1, ((1,),))), ((0,), (1,)))
        self.assert_is_bool(True, has_row(thing=(3, 1, 1, 3), book=RING))


class WrongBooks(BookCase):
    def test_bad_kinds_come_first(self):
        for kind in JUNK:
            if kind == "two":
                continue
            with self.subTest(kind=kind):
                self.assert_bears(errors.BadKind, kind, book_of, kind, 2, ())
                self.assert_bears(errors.BadKind, kind, book_of, kind, 0, None)
                self.assert_bears(errors.BadKind, kind, whole_book, kind, 0)
                self.assert_bears(errors.BadKind, kind, nought_book, n=None, kind=kind)

    def test_bad_lengths(self):
        for kind in reference.KINDS:
            for n in NO_INTEGERS + (0, 17, -1, 10 ** 50):
                with self.subTest(kind=kind, n=n):
                    self.assert_bears(errors.BadLength, n, book_of, kind, n, ())
                    self.assert_bears(errors.BadLength, n, book_of, kind, n, None)
                    self.assert_bears(errors.BadLength, n, whole_book, kind, n)
                    self.assert_bears(errors.BadLength, n, nought_book, kind, n)

    def test_bad_rows(self):
        for kind in reference.KINDS:
            q = reference.SIZES[kind]
            for rows in JUNK + ((1, 0), [(1, 0)], ([1, 0],), ((1, 0), (1,)), ((1, 0), (1, 0, 0)), ((1, q),),
                                ((True, 0),), ((1, 0), ()), (((1, 0),),)):
                with self.subTest(kind=kind, rows=rows):
                    self.assert_bears(errors.BadRows, rows, book_of, kind, 2, rows)
        self.assert_bears(errors.BadRows, ((1, 0),), book_of, rows=((1, 0),), n=3, kind="two")

    def test_bad_books(self):
        for book in JUNK + (list(TETRA), ("two", 2, ((1, 1), (0, 1))), ("two", 4, TETRA[2])):
            with self.subTest(book=book):
                self.assert_bears(errors.BadBook, book, how_many, book)
                self.assert_bears(errors.BadBook, book, rows_of, book)
                self.assert_bears(errors.BadBook, book, has_row, book, (1, 1))
                self.assert_bears(errors.BadBook, book, has_row, book=book, thing=None)
                self.assert_bears(errors.BadBook, book, is_within, book, TETRA)
                self.assert_bears(errors.BadBook, book, is_within, TETRA, book)

    def test_the_order_of_the_errors_of_two_books(self):
        one, other = ["one"], ["other"]
        self.assert_bears(errors.BadBook, one, is_within, one, other)
        self.assert_bears(errors.BadBook, one, is_within, other=other, one=one)
        self.assert_bears(errors.OtherKind, RING, is_within, TETRA, RING)
        self.assert_bears(errors.OtherKind, HEXA, is_within, PAIRS, HEXA)
        short = ("three", 3, ())
        self.assert_bears(errors.OtherLength, short, is_within, TETRA, short)
        self.assert_bears(errors.OtherLength, TETRA, is_within, other=TETRA, one=short)


if __name__ == "__main__":
    unittest.main()
