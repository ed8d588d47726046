import itertools
import random
import unittest

from ownpartners import errors
from ownpartners.books import book_of, is_book, nought_book, rows_of, whole_book
from ownpartners.combining import beside, partner_of
from ownpartners.own import (
    fourfold_holds, has_own, is_fourfold, is_nought, is_own, judge_fourfold, judge_nought, judge_own, nought_holds,
    own_holds)
from tests import reference
from tests.cases import BOOKS, HEXA, JUNK, NO_INTEGERS, PAIRS, RING, TETRA, BookCase, mutants, same
from tests.test_ownlikeness import OCTA, OCTAD

SMALL = (("two", 1), ("two", 2), ("two", 3), ("two", 4), ("three", 1), ("three", 2), ("three", 3), ("four", 1),
         ("four", 2), ("four", 3), ("ring", 1), ("ring", 2), ("ring", 3))

FAMILIES = ("two", "fourfold", "three", "four", "ring")

GOLAY = ("three", 12, (
    (1, 0, 0, 0, 0, 0, 0, 1, 1, 1, 1, 1), (0, 1, 0, 0, 0, 0, 1, 0, 1, 2, 2, 1), (0, 0, 1, 0, 0, 0, 1, 1, 0, 1, 2, 2),
    (0, 0, 0, 1, 0, 0, 1, 2, 1, 0, 1, 2), (0, 0, 0, 0, 1, 0, 1, 2, 2, 1, 0, 1), (0, 0, 0, 0, 0, 1, 1, 1, 2, 2, 1, 0)))

OWN = (TETRA, RING, PAIRS, HEXA, OCTAD, OCTA, GOLAY, beside(OCTAD, OCTAD), beside(PAIRS, OCTAD), beside(TETRA, GOLAY),
       beside(HEXA, HEXA), beside(OCTA, OCTA), ("ring", 1, ((2,),)), ("four", 2, ((1, 3),)))


def is_right_row(kind, n, thing):
    if type(thing) is not tuple or len(thing) != n:
        return False
    return all(type(mark) is int and 0 <= mark < reference.SIZES[kind] for mark in thing)


def is_right_meet(kind, n, rows, thing):
    if type(thing) is not tuple or len(thing) != 3 or thing[0] != "meet":
        return False
    _, x, y = thing
    right = all(is_right_row(kind, n, row) and row in rows for row in (x, y))
    return right and reference.meet(kind, x, y) != 0


def is_right_nought(kind, n, rows, thing):
    """Whether any value is a certificate of [5.1] for a set of rows."""
    if same(thing, ("nought",)):
        return not reference.unmet(kind, rows)
    return is_right_meet(kind, n, rows, thing)


def is_right_own(kind, n, rows, thing):
    """Whether any value is a certificate of [5.2] for a set of rows."""
    if same(thing, ("own",)):
        return reference.partner_rows(kind, n, rows) == set(rows)
    if type(thing) is tuple and len(thing) == 2 and thing[0] == "outside":
        row = thing[1]
        return is_right_row(kind, n, row) and row not in rows and all(reference.meet(kind, y, row) == 0 for y in rows)
    return is_right_meet(kind, n, rows, thing)


def is_right_fourfold(n, rows, thing):
    """Whether any value is a certificate of [5.3] for a set of rows."""
    if same(thing, ("fourfold",)):
        return reference.is_fourfold_set(rows)
    if type(thing) is not tuple or len(thing) != 2 or thing[0] != "weight":
        return False
    return is_right_row("two", n, thing[1]) and thing[1] in rows and reference.weight(thing[1]) % 4 != 0


def books_with_rows(kind, n):
    return [(book_of(kind, n, makers), set(made)) for makers, made in reference.closed_sets(kind, n)]


def random_sets(number=25):
    """Books of middling lengths, with many that meet in nought, and their rows."""
    for kind, most in (("two", 9), ("three", 5), ("four", 4), ("ring", 4)):
        chance = random.Random("own " + kind)
        for _ in range(number):
            n = chance.randint(4, most) if most > 4 else 4
            rows = reference.some_rows(chance, kind, n, chance.randint(0, 3))
            if chance.random() < 0.7:
                kept = []
                for row in rows:
                    if not reference.unmet(kind, kept + [row]):
                        kept.append(row)
                rows = tuple(kept)
            book = book_of(kind, n, rows)
            yield book, set(rows_of(book))


class Judges(BookCase):
    def check_set(self, book, rows):
        kind, n, _ = book
        nought, own = judge_nought(book), judge_own(book)
        self.assertTrue(is_right_nought(kind, n, rows, nought), (book, nought))
        self.assertTrue(is_right_own(kind, n, rows, own), (book, own))
        self.assert_is_bool(True, nought_holds(book, nought))
        self.assert_is_bool(True, own_holds(book, own))
        self.assert_is_bool(not reference.unmet(kind, rows), is_nought(book))
        self.assert_is_bool(reference.partner_rows(kind, n, rows) == rows, is_own(book))
        self.assertEqual(nought == ("nought",), is_nought(book))
        self.assertEqual(own == ("own",), is_own(book))
        for word in ("nought", "own", "fourfold"):
            self.assert_is_bool(is_right_nought(kind, n, rows, (word,)), nought_holds(book, (word,)))
            self.assert_is_bool(is_right_own(kind, n, rows, (word,)), own_holds(book, (word,)))
        self.check_fourfold(book, rows)

    def check_fourfold(self, book, rows):
        due = book[0] == "two" and reference.is_fourfold_set(rows)
        self.assert_is_bool(due, is_fourfold(book))
        if book[0] != "two":
            return
        certificate = judge_fourfold(book)
        self.assertTrue(is_right_fourfold(book[1], rows, certificate), (book, certificate))
        self.assert_is_bool(True, fourfold_holds(book, certificate))
        self.assert_is_bool(due, fourfold_holds(book, ("fourfold",)))
        self.assertEqual(due, certificate == ("fourfold",))
        self.assertTrue(not due or is_nought(book))

    def test_as_going_through_all_rows_tells(self):
        for kind, n in SMALL:
            for book, rows in books_with_rows(kind, n):
                self.check_set(book, rows)

    def test_greater_books(self):
        for book, rows in random_sets():
            self.check_set(book, rows)

    def test_rows_and_pairs_of_rows_hold_just_if_they_are_right(self):
        for kind, n in (("two", 3), ("three", 2), ("four", 2), ("ring", 2)):
            space = reference.all_rows(kind, n)
            for book, rows in books_with_rows(kind, n):
                for pair in itertools.product(space, repeat=2):
                    thing = ("meet",) + pair
                    due = is_right_meet(kind, n, rows, thing)
                    self.assert_is_bool(due, nought_holds(book, thing))
                    self.assert_is_bool(due, own_holds(book, thing))
                for row in space:
                    thing = ("outside", row)
                    self.assert_is_bool(is_right_own(kind, n, rows, thing), own_holds(book, thing))
                    self.assert_is_bool(False, nought_holds(book, thing))
                    if kind == "two":
                        thing = ("weight", row)
                        self.assert_is_bool(is_right_fourfold(n, rows, thing), fourfold_holds(book, thing))

    def test_fourfold_books_of_5_and_8_places(self):
        chance = random.Random("fourfold")
        heavy = [row for row in reference.all_rows("two", 8) if reference.weight(row) % 4 == 0]
        for _ in range(150):
            book = book_of("two", 8, tuple(chance.sample(heavy, chance.randint(0, 3))))
            self.check_fourfold(book, set(rows_of(book)))
        # All weights in the basis are divisible by 4, and that of the sum is not.
        odd = book_of("two", 5, ((1, 1, 1, 1, 0), (0, 1, 1, 1, 1)))
        self.check_fourfold(odd, set(rows_of(odd)))
        seven = ("two", 7, ((1, 0, 0, 0, 1, 1, 1), (0, 1, 1, 1, 1, 0, 0)))
        self.assertEqual(judge_fourfold(seven)[0], "weight")
        self.check_fourfold(seven, set(rows_of(seven)))

    def test_own_partners(self):
        for book in OWN:
            self.assert_is_bool(True, is_own(book))
            self.assert_is_bool(True, is_nought(book))
            self.assertEqual((judge_own(book), judge_nought(book)), (("own",), ("nought",)))
            self.assertTrue(own_holds(book, ("own",)) and nought_holds(book, ("nought",)))
            kind, n, basis = book
            less = (kind, n, basis[:-1])
            if is_book(less):
                self.assert_is_bool(False, is_own(less))
                word, row = judge_own(less)
                self.assertEqual(word, "outside")
                self.assertTrue(own_holds(less, (word, row)))
                self.assertFalse(own_holds(book, (word, row)))
        self.assertEqual([is_fourfold(book) for book in (OCTAD, beside(OCTAD, OCTAD), PAIRS, beside(PAIRS, OCTAD), TETRA)],
                         [True, True, False, False, False])

    def test_whole_and_nought_books(self):
        for kind in reference.KINDS:
            for n in (1, 2, 8, 16):
                whole, nought = whole_book(kind, n), nought_book(kind, n)
                self.assertEqual(judge_nought(whole)[0], "meet")
                self.assertTrue(own_holds(whole, judge_own(whole)))
                self.assertEqual(judge_nought(nought), ("nought",))
                self.assertEqual(judge_own(nought)[0], "outside")
                self.assertTrue(own_holds(nought, judge_own(nought)))
        self.assertEqual(judge_fourfold(nought_book("two", 16)), ("fourfold",))
        self.assertEqual(judge_fourfold(whole_book("two", 16))[0], "weight")


class Holds(BookCase):
    def test_changed_certificates_hold_just_if_they_are_right(self):
        books = [("two", 3, ((1, 0, 1), (0, 1, 0))), ("two", 4, ((1, 1, 1, 1),)), PAIRS, TETRA, RING, HEXA,
                 ("three", 3, ((1, 1, 0),)), ("four", 2, ((1, 0),)), ("ring", 2, ((1, 0), (0, 2))), ("four", 3, ((1, 2, 0),)),
                 ("three", 4, ((1, 1, 1, 0),)), ("ring", 3, ((2, 0, 2),)), ("two", 1, ()), ("two", 5, ((1, 1, 1, 1, 0),)),
                 ("two", 5, ((1, 0, 0, 0, 1), (0, 1, 1, 1, 1)))]
        for book in books:
            kind, n, _ = book
            rows = set(rows_of(book))
            for certificate in (judge_nought(book), judge_own(book), ("own",), ("nought",), ("outside", (0,) * n)):
                for thing in mutants(certificate):
                    self.assert_is_bool(is_right_nought(kind, n, rows, thing), nought_holds(book, thing))
                    self.assert_is_bool(is_right_own(kind, n, rows, thing), own_holds(book, thing))
            if kind == "two":
                for thing in mutants(judge_fourfold(book)):
                    self.assert_is_bool(is_right_fourfold(n, rows, thing), fourfold_holds(book, thing))

    def test_any_value(self):
        for book in BOOKS:
            kind, n, _ = book
            rows = set(rows_of(book))
            for thing in JUNK + (("meet",), ("meet", None, None), ("outside",), ("outside", None), ("weight",), "own",
                                 ["own"], ("own", 1), (("own",),), ("nought", None), ("meet", (0,) * n, (0,) * n),
                                 ("meet", [0] * n, [0] * n), ("outside", [0] * n), ("weight", (1,) * n)):
                with self.subTest(book=book, thing=thing):
                    self.assert_is_bool(is_right_nought(kind, n, rows, thing), nought_holds(book, thing))
                    self.assert_is_bool(is_right_own(kind, n, rows, thing), own_holds(book, thing))
                    if kind == "two":
                        self.assert_is_bool(is_right_fourfold(n, rows, thing), fourfold_holds(book, thing))

    def test_no_value_of_the_wrong_sort_is_such_a_book(self):
        for function in (is_nought, is_own, is_fourfold):
            for thing in JUNK:
                self.assert_is_bool(False, function(thing))
                self.assert_is_bool(False, function(thing=thing))
        for book in (PAIRS, TETRA, OCTAD):
            for thing in mutants(book):
                self.assert_is_bool(is_book(thing) and partner_of(thing) == thing, is_own(thing))
                self.assert_is_bool(is_book(thing) and judge_nought(thing) == ("nought",), is_nought(thing))
                due = is_book(thing) and thing[0] == "two" and reference.is_fourfold_set(rows_of(thing))
                self.assert_is_bool(due, is_fourfold(thing))

    def test_calls_by_name(self):
        self.assertEqual(judge_nought(book=PAIRS), ("nought",))
        self.assertEqual(judge_own(book=PAIRS), ("own",))
        self.assertEqual(judge_fourfold(book=PAIRS)[0], "weight")
        self.assertTrue(nought_holds(thing=("nought",), book=PAIRS))
        self.assertTrue(own_holds(thing=("own",), book=PAIRS))
        self.assertTrue(fourfold_holds(thing=("weight", (1, 1, 0, 0)), book=PAIRS))


class Has(BookCase):
    def test_has_own(self):
        for n in range(1, 17):
            due = {"two": n % 2 == 0, "four": n % 2 == 0, "three": n % 4 == 0, "fourfold": n % 8 == 0, "ring": True}
            for family in FAMILIES:
                self.assert_is_bool(due[family], has_own(family, n))
        self.assert_is_bool(True, has_own(n=8, family="fourfold"))

    def test_has_own_as_going_through_all_books_tells(self):
        for family, lengths in (("two", range(1, 7)), ("three", range(1, 5)), ("four", range(1, 5)), ("ring", range(1, 5))):
            for n in lengths:
                self.assertEqual(has_own(family, n), bool(reference.own_sets(family, n)))
        for n in range(1, 7):
            due = any(reference.is_fourfold_set(rows) for rows in reference.own_sets("two", n))
            self.assertEqual(has_own("fourfold", n), due)


class Wrong(BookCase):
    def test_bad_books(self):
        for book in JUNK:
            for function in (judge_nought, judge_own, judge_fourfold):
                self.assert_bears(errors.BadBook, book, function, book)
                self.assert_bears(errors.BadBook, book, function, book=book)
            for function in (nought_holds, own_holds, fourfold_holds):
                self.assert_bears(errors.BadBook, book, function, book, ("own",))
                self.assert_bears(errors.BadBook, book, function, thing=["thing"], book=book)

    def test_other_kinds(self):
        for book in (TETRA, RING, HEXA, OCTA, nought_book("three", 1)):
            self.assert_bears(errors.OtherKind, book, judge_fourfold, book)
            self.assert_bears(errors.OtherKind, book, fourfold_holds, book, ("fourfold",))
            self.assert_bears(errors.OtherKind, book, fourfold_holds, thing=None, book=book)

    def test_bad_families_come_first(self):
        for family in JUNK:
            if family in ("two", "fourfold"):
                continue
            self.assert_bears(errors.BadFamily, family, has_own, family, None)
            self.assert_bears(errors.BadFamily, family, has_own, n=4, family=family)

    def test_bad_lengths(self):
        for family in FAMILIES:
            for n in NO_INTEGERS + (0, -1, 17, 18, 10 ** 99, True, False):
                self.assert_bears(errors.BadLength, n, has_own, family, n)
                self.assert_bears(errors.BadLength, n, has_own, n=n, family=family)


if __name__ == "__main__":
    unittest.main()
