import random
import time
import unittest

from ownpartners import errors
from ownpartners.books import book_of, how_many, is_book, is_within, nought_book, rows_of
from ownpartners.combining import beside, partner_of
from ownpartners.growing import all_through, fourfold_through, greatest_dimension, grown, own_through
from ownpartners.own import has_own, is_fourfold, is_nought, is_own, nought_holds
from ownpartners.ownnumbers import own_number, through_number
from tests import reference
from tests.cases import HEXA, JUNK, NO_INTEGERS, PAIRS, RING, TETRA, BookCase
from tests.test_own import GOLAY, OCTA, OCTAD, books_with_rows, is_right_fourfold, is_right_nought

LENGTHS = (("two", range(1, 9)), ("three", range(1, 6)), ("four", range(1, 6)))


def nought_books(kind, n, most):
    """Books that meet in nought, all of them or some, with their rows."""
    sets = reference.nought_sets(kind, n)
    for rows in random.Random(f"{kind} {n}").sample(sets, min(most, len(sets))):
        yield (kind, n, reference.basis_of(kind, n, rows)), set(rows)


def random_nought_books(kind, lengths, number, is_good=lambda row: True):
    """Books that meet in nought, made by random rows of the partner, one after the other."""
    chance = random.Random("nought " + kind)
    for _ in range(number):
        n = chance.choice(lengths)
        book = nought_book(kind, n)
        for _ in range(chance.randint(0, 40)):
            partner = partner_of(book)[2]
            row = (0,) * n
            for head in partner:
                mark = chance.randrange(reference.SIZES[kind])
                row = reference.add_rows(kind, row, reference.times_row(kind, mark, head))
            if reference.meet(kind, row, row) == 0 and is_good(row):
                book = book_of(kind, n, book[2] + (row,))
                if chance.random() < 0.3:
                    break
        yield book


class Growing(BookCase):
    def test_greatest_dimensions_as_going_through_all_books_tells(self):
        for kind, lengths in LENGTHS:
            for n in lengths:
                most = max(len(rows) for rows in reference.nought_sets(kind, n))
                self.assertEqual(reference.SIZES[kind] ** greatest_dimension(kind, n), most)

    def test_greatest_dimensions_of_all_lengths(self):
        for n in range(1, 17):
            due = n // 2 if n % 4 == 0 else (n - 1) // 2 if n % 2 else (n - 2) // 2
            self.assertEqual([greatest_dimension(kind, n) for kind in ("two", "three", "four")], [n // 2, due, n // 2])
        self.assertEqual(greatest_dimension(n=6, kind="three"), 2)

    def check_grown(self, book):
        found = grown(book)
        self.assertTrue(is_book(found))
        self.assertEqual(found[:2], book[:2])
        self.assertTrue(is_nought(found))
        self.assertEqual(len(found[2]), greatest_dimension(*book[:2]))
        self.assertTrue(is_within(book, found))

    def test_grown_books_of_small_lengths(self):
        for kind, lengths in LENGTHS:
            for n in lengths:
                for book, _ in nought_books(kind, n, 60):
                    self.check_grown(book)

    def test_grown_books_up_to_16_places(self):
        for kind in ("two", "three", "four"):
            for n in range(1, 17):
                self.check_grown(nought_book(kind, n))
            for book in random_nought_books(kind, range(6, 17), 30):
                self.check_grown(book)
        self.assertEqual(grown(book=GOLAY), GOLAY)

    def check_own(self, book):
        if not has_own(book[0], book[1]):
            self.assert_bare(errors.NoOwn, own_through, book)
            return
        found = own_through(book)
        self.assertTrue(is_own(found))
        self.assertEqual(found[:2], book[:2])
        self.assertTrue(is_within(book, found))

    def test_own_through(self):
        for kind, lengths in LENGTHS + (("ring", range(1, 5)),):
            for n in lengths:
                for book, _ in nought_books(kind, n, 60):
                    self.check_own(book)

    def test_own_through_up_to_16_places(self):
        for kind in ("two", "three", "four"):
            for n in range(1, 17):
                self.check_own(nought_book(kind, n))
            for book in random_nought_books(kind, range(6, 17), 30):
                self.check_own(book)
        for n in range(1, 9):
            self.check_own(nought_book("ring", n))
        for book in random_nought_books("ring", range(3, 9), 60):
            self.check_own(book)
        for book in (PAIRS, TETRA, HEXA, RING, OCTA, OCTAD, GOLAY):
            self.assertEqual(own_through(book=book), book)

    def check_fourfold(self, book):
        if book[1] % 8:
            self.assert_bare(errors.NoOwn, fourfold_through, book)
            return
        found = fourfold_through(book)
        self.assertTrue(is_own(found) and is_fourfold(found))
        self.assertTrue(all(reference.weight(row) % 4 == 0 for row in rows_of(found)))
        self.assertEqual(found[:2], book[:2])
        self.assertTrue(is_within(book, found))

    def test_fourfold_through(self):
        for n in range(1, 9):
            for book, rows in nought_books("two", n, 400):
                if reference.is_fourfold_set(rows):
                    self.check_fourfold(book)

    def test_fourfold_through_up_to_16_places(self):
        for n in range(1, 17):
            self.check_fourfold(nought_book("two", n))
        for book in random_nought_books("two", range(9, 17), 60, lambda row: reference.weight(row) % 4 == 0):
            self.check_fourfold(book)
        for book in random_nought_books("two", (16,), 60, lambda row: reference.weight(row) % 4 == 0):
            self.check_fourfold(book)
        self.assertEqual(fourfold_through(book=beside(OCTAD, OCTAD)), beside(OCTAD, OCTAD))


class AllThrough(BookCase):
    def check_all(self, book, due):
        found = all_through(book, most=len(due))
        self.assertIs(type(found), tuple)
        self.assertEqual([set(rows_of(one)) for one in found], sorted(due, key=lambda rows: reference.basis_of(
            book[0], book[1], tuple(rows))))
        self.assertEqual(list(found), sorted(set(found)))
        self.assertEqual(len(found), through_number(book))

    def test_as_going_through_all_own_partners_tells(self):
        for kind, lengths in LENGTHS:
            for n in lengths:
                own = [set(rows) for rows in reference.own_sets(kind, n)]
                for book, rows in nought_books(kind, n, 25):
                    self.check_all(book, [one for one in own if one >= rows])

    def test_all_of_the_lengths_at_the_limits(self):
        for kind, n in (("two", 8), ("four", 6), ("three", 4), ("three", 6), ("two", 7), ("four", 5)):
            begun = time.perf_counter()
            found = all_through(nought_book(kind, n), most=1000)
            self.assertEqual(len(found), own_number(kind, n))
            self.assertEqual(list(found), sorted(set(found)))
            self.assertTrue(all(is_own(one) and one[:2] == (kind, n) for one in found))
            self.assertLess(time.perf_counter() - begun, 10)

    def test_four_at_6_places(self):
        for book in random_nought_books("four", (6,), 10):
            found = all_through(book=book, most=891)
            whole = all_through(nought_book("four", 6), most=891)
            self.assertEqual(found, tuple(one for one in whole if is_within(book, one)))

    def test_most_counts_by_5_7(self):
        for kind, n in (("two", 4), ("two", 6), ("three", 4), ("four", 4), ("two", 3)):
            for book, _ in nought_books(kind, n, 30):
                number = through_number(book)
                self.assertEqual(len(all_through(book, most=number)), number)
                self.assertEqual(all_through(book, most=10 ** 99), all_through(book))
                for most in {0, number - 1} - {-1, number}:
                    self.assert_bears(errors.TooMany, most, all_through, book, most=most)
        self.assertEqual(all_through(nought_book("two", 3), most=0), ())
        self.assertEqual(all_through(nought_book("three", 6), most=0), ())

    def test_most_is_256_if_it_is_not_told(self):
        self.assert_bears(errors.TooMany, 256, all_through, nought_book("four", 6))
        self.assertEqual(len(all_through(("four", 6, ((1, 1, 0, 0, 0, 0),)))), 27)
        self.assertEqual(len(all_through(nought_book("two", 8))), 135)

    def test_too_many_before_any_is_sought(self):
        begun = time.perf_counter()
        for kind in ("two", "three", "four"):
            self.assert_bears(errors.TooMany, 1000, all_through, nought_book(kind, 16), most=1000)
        self.assertLess(time.perf_counter() - begun, 1)

    def test_most_is_passed_by_name(self):
        self.assertRaises(TypeError, all_through, PAIRS, 256)
        self.assertEqual(all_through(most=1, book=PAIRS), (PAIRS,))


class Wrong(BookCase):
    def test_greatest_dimensions(self):
        for kind in JUNK + ("ring",):
            if kind != "two":
                self.assert_bears(errors.BadKind, kind, greatest_dimension, kind, None)
                self.assert_bears(errors.BadKind, kind, greatest_dimension, n=4, kind=kind)
        for kind in ("two", "three", "four"):
            for n in NO_INTEGERS + (0, -1, 17, 10 ** 99, True, False):
                self.assert_bears(errors.BadLength, n, greatest_dimension, kind, n)

    def test_bad_books(self):
        for book in JUNK:
            for function in (grown, own_through, fourfold_through, all_through):
                self.assert_bears(errors.BadBook, book, function, book)
                self.assert_bears(errors.BadBook, book, function, book=book)
            self.assert_bears(errors.BadBook, book, all_through, book, most=None)

    def test_other_kinds(self):
        for book in (RING, OCTA, ("ring", 1, ((1,),))):
            self.assert_bears(errors.OtherKind, book, grown, book)
            self.assert_bears(errors.OtherKind, book, all_through, book, most=None)
        for book in (RING, OCTA, TETRA, HEXA, ("three", 1, ((1,),)), ("four", 2, ((1, 0),))):
            self.assert_bears(errors.OtherKind, book, fourfold_through, book)

    def test_not_nought(self):
        for kind, n in (("two", 3), ("two", 4), ("three", 2), ("three", 3), ("four", 2), ("ring", 2)):
            for book, rows in books_with_rows(kind, n):
                if is_nought(book):
                    continue

                def is_right(thing):
                    return is_right_nought(kind, n, rows, thing) and nought_holds(book, thing) and thing[0] == "meet"
                # Also where no own partners are there, and where most is none.
                self.check_certificate(errors.NotNought, own_through, book, is_right)
                if kind != "ring":
                    self.check_certificate(errors.NotNought, grown, book, is_right)
                    self.check_certificate(errors.NotNought, all_through, book, is_right, most=None)
                    self.check_certificate(errors.NotNought, all_through, book, is_right, most=0)

    def test_not_fourfold(self):
        for n in (2, 3, 4):
            for book, rows in books_with_rows("two", n):
                if not reference.is_fourfold_set(rows):
                    self.check_certificate(errors.NotFourfold, fourfold_through, book, lambda thing: is_right_fourfold(
                        n, rows, thing) and thing[0] == "weight")
        pairs = beside(PAIRS, PAIRS)
        self.check_certificate(errors.NotFourfold, fourfold_through, pairs, lambda thing: is_right_fourfold(
            8, rows_of(pairs), thing) and thing[0] == "weight")

    def test_no_own(self):
        for book in (nought_book("two", 1), nought_book("two", 15), nought_book("three", 6), nought_book("three", 2),
                     nought_book("four", 3), ("three", 3, ((1, 1, 1),))):
            self.assert_bare(errors.NoOwn, own_through, book)
        for n in range(1, 17):
            if n % 8:
                self.assert_bare(errors.NoOwn, fourfold_through, nought_book("two", n))

    def test_bad_numbers(self):
        for most in NO_INTEGERS + (-1, -10 ** 99, True, False):
            for book in (PAIRS, TETRA, HEXA, nought_book("two", 3), nought_book("two", 16)):
                self.assert_bears(errors.BadNumber, most, all_through, book, most=most)
        self.assertEqual(how_many(all_through(PAIRS)[0]), 4)


if __name__ == "__main__":
    unittest.main()
