import itertools
import random
import time
import unittest

from ownpartners import errors
from ownpartners.books import book_of, how_many, is_within, nought_book, rows_of, whole_book
from ownpartners.changes import led
from ownpartners.combining import beside, partner_of
from ownpartners.growing import fourfold_through
from ownpartners.own import is_fourfold, is_nought, is_own
from ownpartners.ownnumbers import ring_number
from ownpartners.residues import own_above, owns_above, residue, torsion
from tests import reference
from tests.cases import HEXA, JUNK, PAIRS, RING, TETRA, BookCase
from tests.test_changes import random_change
from tests.test_growing import random_nought_books
from tests.test_own import OCTA, OCTAD, books_with_rows, is_right_fourfold
from tests.test_shortrows import SEVEN, laid

DOWN = (residue, torsion)
UP = (own_above, owns_above)


def remainders(rows):
    return {tuple(mark % 2 for mark in row) for row in rows}


def halves(n, rows):
    """The rows of 0 and 1 whose doubles are among some rows."""
    return {row for row in reference.all_rows("two", n) if tuple(2 * mark for mark in row) in rows}


def ring_books():
    """Small books of "ring", and middling ones, with their rows."""
    for n in (1, 2, 3):
        yield from books_with_rows("ring", n)
    chance = random.Random("ring books")
    for _ in range(60):
        n = chance.randint(4, 6)
        rows = tuple(tuple(mark * unit % 4 for mark in row) for row, unit in zip(
            reference.some_rows(chance, "ring", n, 4), chance.choices((0, 1, 2, 2, 3), k=4)))
        book = book_of("ring", n, rows)
        yield book, set(rows_of(book))


def fourfold_books(n):
    return [book for book, rows in books_with_rows("two", n) if reference.is_fourfold_set(rows)]


class Below(BookCase):
    def test_as_going_through_all_rows_tells(self):
        for book, rows in ring_books():
            n = book[1]
            below, doubled = residue(book), torsion(book)
            self.assertEqual((below[:2], doubled[:2]), (("two", n), ("two", n)))
            self.assertEqual(set(rows_of(below)), remainders(rows))
            self.assertEqual(set(rows_of(doubled)), halves(n, rows))
            self.assertTrue(is_within(below, doubled))
            self.assertEqual(how_many(below) * how_many(doubled), how_many(book))

    def test_partners(self):
        for book, _ in ring_books():
            self.assertEqual(residue(partner_of(book)), partner_of(torsion(book)))
            self.assertEqual(torsion(partner_of(book)), partner_of(residue(book)))

    def test_books_that_meet_in_nought(self):
        for book, _ in ring_books():
            below, doubled = residue(book), torsion(book)
            if is_nought(book):
                self.assertTrue(is_fourfold(below))
                self.assertTrue(is_within(below, partner_of(doubled)))
            self.assertEqual(is_own(book), is_nought(book) and doubled == partner_of(below))

    def test_known_books(self):
        self.assertEqual([residue(book=OCTA), torsion(OCTA)], [residue(OCTA), residue(OCTA)])
        self.assertTrue(is_own(residue(OCTA)) and is_fourfold(residue(OCTA)))
        self.assertEqual(torsion(book=RING), partner_of(("two", 4, ((1, 1, 1, 1),))))
        for n in (1, 5, 16):
            self.assertEqual([residue(whole_book("ring", n)), torsion(whole_book("ring", n))], [whole_book("two", n)] * 2)
            self.assertEqual([residue(nought_book("ring", n)), torsion(nought_book("ring", n))], [nought_book("two", n)] * 2)

    def test_at_the_limits(self):
        begun = time.perf_counter()
        chance = random.Random("limits")
        for _ in range(10):
            book = book_of("ring", 16, reference.some_rows(chance, "ring", 16, 4))
            rows = rows_of(book)
            self.assertEqual(set(rows_of(residue(book))), remainders(rows))
            doubled = {tuple(mark // 2 for mark in row) for row in rows if all(mark % 2 == 0 for mark in row)}
            self.assertEqual(set(rows_of(torsion(book))), doubled)
        self.assertLess(time.perf_counter() - begun, 5)


class Above(BookCase):
    def check_above(self, book, found):
        k = len(book[2])
        self.assertIs(type(found), tuple)
        self.assertEqual(list(found), sorted(set(found)))
        self.assertEqual(len(found), 2 ** (k * (k + 1) // 2))
        self.assertEqual(len(found), ring_number(book))
        for one in found:
            self.assertEqual(one[:2], ("ring", book[1]))
            self.assertTrue(is_own(one))
            self.assertEqual(residue(one), book)
        self.assertIn(own_above(book), found)

    def test_as_going_through_all_own_partners_tells(self):
        for n in (1, 2, 3, 4):
            own = [set(rows) for rows in reference.own_sets("ring", n)]
            for book in fourfold_books(n):
                found = owns_above(book)
                self.check_above(book, found)
                due = [rows for rows in own if remainders(rows) == set(rows_of(book))]
                self.assertEqual(len(due), len(found))
                for one in found:
                    self.assertIn(set(rows_of(one)), due)

    def test_as_going_through_all_doubles_tells(self):
        chance = random.Random("doubles")
        books = [("two", 5, ((1, 1, 0, 1, 1),)), ("two", 6, ((1, 1, 0, 0, 1, 1), (0, 0, 1, 1, 1, 1)))]
        books.append(led(books[1], random_change(chance, "two", 6)))
        for book in books:
            n = book[1]
            below = tuple(tuple(2 * mark for mark in row) for row in partner_of(book)[2])
            due = set()
            for doubles in itertools.product(reference.all_rows("two", n), repeat=len(book[2])):
                rows = tuple(tuple(a + 2 * b for a, b in zip(row, double)) for row, double in zip(book[2], doubles))
                one = book_of("ring", n, rows + below)
                if is_own(one):
                    due.add(one)
            self.assertEqual(owns_above(book), tuple(sorted(due)))
            self.check_above(book, owns_above(book=book))

    def test_up_to_8_rows_and_10_places(self):
        begun = time.perf_counter()
        for book in (SEVEN, laid(("d8",)), laid(("e7", "single", "single")), laid(("d4", "d4", "single")), laid(("d4", "d6")),
                     laid(("d8", "single", "single")), nought_book("two", 10), laid(("d4", "single")),
                     ("two", 8, ((1,) * 8,)), laid(("d6", "d4"))):
            for change in (0, random_change(random.Random(str(book)), "two", book[1])):
                one = led(book, change) if change else book
                self.check_above(one, owns_above(one))
        for book in random_nought_books("two", (7, 8, 9, 10), 25, lambda row: reference.weight(row) % 4 == 0):
            if len(book[2]) <= 3:
                self.check_above(book, owns_above(book))
        self.assertLess(time.perf_counter() - begun, 10)

    def test_own_above_up_to_16_places(self):
        begun = time.perf_counter()
        books = [OCTAD, beside(OCTAD, OCTAD), laid(("d16",)), fourfold_through(nought_book("two", 16)), nought_book("two", 16),
                 nought_book("two", 1)]
        books += random_nought_books("two", (11, 13, 14, 15, 16), 25, lambda row: reference.weight(row) % 4 == 0)
        for book in books:
            found = own_above(book=book)
            self.assertEqual(found[:2], ("ring", book[1]))
            self.assertTrue(is_own(found))
            self.assertEqual(residue(found), book)
        self.assertLess(time.perf_counter() - begun, 5)


class Wrong(BookCase):
    def check(self, error, book, functions):
        for function in functions:
            self.assert_bears(error, book, function, book)
            self.assert_bears(error, book, function, book=book)

    def test_bad_books(self):
        for book in JUNK:
            self.check(errors.BadBook, book, DOWN + UP)

    def test_other_kinds(self):
        for book in (PAIRS, OCTAD, nought_book("two", 1)):
            self.check(errors.OtherKind, book, DOWN)
        for book in (RING, OCTA, nought_book("ring", 1), ("ring", 1, ((1,),))):
            self.check(errors.OtherKind, book, UP)
        for book in (TETRA, HEXA, nought_book("three", 2), whole_book("four", 2)):
            self.check(errors.OtherKind, book, DOWN + UP)

    def test_not_fourfold(self):
        found = 0
        for n in (1, 2, 3, 4):
            for book, rows in books_with_rows("two", n):
                if not reference.is_fourfold_set(rows):
                    found += 1
                    for function in UP:
                        self.check_certificate(errors.NotFourfold, function, book, lambda thing: is_right_fourfold(
                            n, rows, thing) and thing[0] == "weight")
        # Three weights divisible by 4 in the basis, and sums that are not.
        odd = ("two", 6, ((1, 0, 1, 1, 1, 0), (0, 1, 1, 1, 0, 1)))
        for function in UP:
            self.check_certificate(errors.NotFourfold, function, beside(odd, PAIRS), lambda thing: is_right_fourfold(
                10, rows_of(beside(odd, PAIRS)), thing) and thing[0] == "weight")
        self.assertGreater(found, 50)


if __name__ == "__main__":
    unittest.main()
