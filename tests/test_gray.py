import collections
import itertools
import random
import time
import unittest

from ownpartners import errors
from ownpartners.books import book_of, how_many, is_book, nought_book, rows_of, whole_book
from ownpartners.combining import partner_of
from ownpartners.counts import lee_counts
from ownpartners.gray import gray_holds, gray_row, gray_rows, judge_gray, row_pictured
from ownpartners.partnercounts import partner_counts
from tests import reference
from tests.cases import HEXA, JUNK, PAIRS, RING, TETRA, BookCase, mutants, same
from tests.test_own import OCTA, OCTAD, books_with_rows, is_right_row

PICTURES = {0: (0, 0), 1: (0, 1), 2: (1, 1), 3: (1, 0)}


def picture(row):
    return tuple(part for mark in row for part in PICTURES[mark])


def less(x, y):
    return tuple((a - b) % 4 for a, b in zip(x, y))


def doubled_product(x, y):
    return tuple(2 * a * b % 4 for a, b in zip(x, y))


def differences(x, y):
    return sum(a != b for a, b in zip(x, y))


def is_closed(rows):
    """Whether the sum of any two pictures is a picture."""
    pictures = {picture(row) for row in rows}
    return all(reference.add_rows("two", x, y) in pictures for x in pictures for y in pictures)


def is_right(book, rows, thing):
    """Whether any value is a certificate, by the words of [10.4]."""
    _, n, _ = book
    if type(thing) is not tuple or not thing or type(thing[0]) is not str:
        return False
    if thing[0] == "closed" and len(thing) == 2:
        if not is_book(thing[1]) or thing[1][:2] != ("two", 2 * n):
            return False
        return set(rows_of(thing[1])) == {picture(row) for row in rows}
    if thing[0] != "broken" or len(thing) != 3 or not all(is_right_row("ring", n, row) and row in rows for row in thing[1:]):
        return False
    return doubled_product(*thing[1:]) not in rows


def some_books():
    """Small books of "ring", and middling ones, with their rows."""
    for n in (1, 2, 3):
        yield from books_with_rows("ring", n)
    chance = random.Random("gray")
    for many in range(60):
        n = chance.randint(4, 5)
        rows = tuple(tuple(mark * chance.choice((1, 1, 1 + many % 2)) % 4 for mark in row)
                     for row in reference.some_rows(chance, "ring", n, 1 + many % 3))
        book = book_of("ring", n, rows)
        yield book, set(rows_of(book))


class Pictures(BookCase):
    def test_pictures_of_all_rows(self):
        for n in (1, 2, 3, 4):
            pictures = set()
            for row in reference.all_rows("ring", n):
                found = gray_row(row)
                self.assertTrue(same(found, picture(row)))
                self.assertTrue(same(row_pictured(found), row))
                pictures.add(found)
            self.assertEqual(pictures, set(reference.all_rows("two", 2 * n)))
        for row in reference.some_rows(random.Random("rows"), "ring", 8, 50):
            self.assertEqual(row_pictured(gray_row(row)), row)

    def test_rows_of_all_pictures(self):
        for n in (2, 4, 6, 8):
            for row in reference.all_rows("two", n):
                self.assertTrue(same(gray_row(row_pictured(row)), row))
        self.assertEqual(row_pictured((1, 1) * 8), (2,) * 8)

    def test_pictures_differ_as_the_lee_weight_tells(self):
        for n in (1, 2, 3):
            for x, y in itertools.product(reference.all_rows("ring", n), repeat=2):
                self.assertEqual(differences(gray_row(x), gray_row(y)), reference.lee(less(x, y)))

    def test_sums_of_pictures(self):
        for x, y in itertools.product(reference.all_rows("ring", 3), repeat=2):
            both = reference.add_rows("ring", reference.add_rows("ring", x, y), doubled_product(x, y))
            self.assertEqual(reference.add_rows("two", gray_row(x), gray_row(y)), gray_row(both))

    def test_calls_by_name(self):
        self.assertEqual(gray_row(row=(0, 1, 2, 3)), (0, 0, 0, 1, 1, 1, 1, 0))
        self.assertEqual(row_pictured(row=(1, 0, 1, 1)), (3, 2))
        self.assertEqual(gray_rows(book=("ring", 1, ((2,),))), ((0, 0), (1, 1)))
        self.assertEqual(judge_gray(book=("ring", 1, ())), ("closed", ("two", 2, ())))
        self.assertTrue(gray_holds(thing=("closed", ("two", 2, ())), book=("ring", 1, ())))


class Books(BookCase):
    def check_book(self, book, rows):
        due = tuple(sorted(map(picture, rows)))
        self.assertEqual(gray_rows(book), due)
        certificate = judge_gray(book)
        self.assertTrue(is_right(book, rows, certificate), (book, certificate))
        self.assert_is_bool(True, gray_holds(book, certificate))
        return certificate[0]

    def test_closed_just_if_all_sums_of_pictures_are_pictures(self):
        words = collections.Counter()
        for book, rows in some_books():
            word = self.check_book(book, rows)
            self.assertEqual(word, "closed" if is_closed(rows) else "broken")
            made = ("closed", book_of("two", 2 * book[1], gray_rows(book)[:64]))
            if len(rows) <= 64:
                self.assert_is_bool(word == "closed", gray_holds(book, made))
            words[word] += 1
        self.assertGreater(min(words["closed"], words["broken"]), 10)

    def test_all_pairs_of_rows(self):
        for book, rows in itertools.chain(books_with_rows("ring", 2), random.Random("pairs").sample(
                books_with_rows("ring", 3), 12)):
            for x, y in itertools.product(reference.all_rows("ring", book[1]), repeat=2):
                thing = ("broken", x, y)
                self.assert_is_bool(is_right(book, rows, thing), gray_holds(book, thing))

    def test_numbers_by_distance(self):
        for book, _ in itertools.islice(some_books(), 0, None, 3):
            pictures = gray_rows(book)
            for one in pictures[:3]:
                found = collections.Counter(differences(one, other) for other in pictures)
                self.assertEqual(tuple(found[w] for w in range(2 * book[1] + 1)), lee_counts(book))

    def test_the_partner_by_distance(self):
        for book, _ in some_books():
            certificate = judge_gray(book)
            if certificate[0] == "closed":
                self.assertEqual(lee_counts(partner_of(book)), partner_counts("two", 2 * book[1], lee_counts(book)))

    def test_at_the_limits(self):
        begun = time.perf_counter()
        chance = random.Random("limits")
        for _ in range(10):
            book = book_of("ring", 8, reference.some_rows(chance, "ring", 8, 4))
            self.check_book(book, set(rows_of(book)))
        for book in (OCTA, nought_book("ring", 8), whole_book("ring", 4), book_of("ring", 8, ((1,) * 8, (2,) + (0,) * 7)),
                     book_of("ring", 8, tuple((0,) * k + (2,) + (0,) * (7 - k) for k in range(8)))):
            self.assertLessEqual(how_many(book), 256)
            self.check_book(book, set(rows_of(book)))
        self.assertLess(time.perf_counter() - begun, 5)
        self.assertEqual(judge_gray(OCTA)[0], "broken")
        self.assertEqual(judge_gray(whole_book("ring", 4)), ("closed", whole_book("two", 8)))


class Holds(BookCase):
    def test_changed_certificates_hold_just_if_they_are_right(self):
        for book, rows in random.Random("mutants").sample(list(some_books()), 60):
            for thing in mutants(judge_gray(book)):
                self.assert_is_bool(is_right(book, rows, thing), gray_holds(book, thing))

    def test_any_value(self):
        things = ("closed", ("closed",), ("broken",), ("closed", None), ("closed", RING), ("closed", PAIRS), ("broken", None, 1),
                  ("broken", (1, 1, 1, 1)), ("closed", ("two", 2, [])), ["closed", ("two", 2, ())], ("closed", ("two", 2, ())),
                  ("broken", [1, 1], [0, 2]), ("broken", (True, 1), (0, 2)), ("closed", ("ring", 2, ())), ("closed", ("two", 1, ())),
                  ("broken", (1, 0, 3), (1, 1, 0)), ("closed", ("two", 2, ((True, 1),))), ("closed", ("two", 2, ((1, 1),)), 0))
        for book in (RING, OCTA, ("ring", 1, ()), ("ring", 1, ((2,),)), ("ring", 2, ((2, 1), (0, 2))),
                     ("ring", 3, ((1, 0, 3), (0, 1, 0)))):
            rows = set(rows_of(book))
            for thing in JUNK + things:
                with self.subTest(book=book, thing=thing):
                    self.assert_is_bool(is_right(book, rows, thing), gray_holds(book, thing))


class Wrong(BookCase):
    def check(self, error, book):
        for function in (gray_rows, judge_gray):
            self.assert_bears(error, book, function, book)
            self.assert_bears(error, book, function, book=book)
        for thing in (None, ("closed", PAIRS), ["thing"]):
            self.assert_bears(error, book, gray_holds, book, thing)
            self.assert_bears(error, book, gray_holds, thing=thing, book=book)

    def test_bad_books(self):
        for book in JUNK:
            self.check(errors.BadBook, book)

    def test_other_kinds(self):
        for book in (PAIRS, TETRA, HEXA, OCTAD, nought_book("two", 1), whole_book("four", 2), nought_book("three", 8)):
            self.check(errors.OtherKind, book)

    def check_row(self, function, row):
        self.assert_bears(errors.BadRow, row, function, row)
        self.assert_bears(errors.BadRow, row, function, row=row)

    def test_bad_rows(self):
        for row in JUNK + ((), [0, 1], (0, 4), (0, -1), (True, 1), (None, 1), (0, "1"), (0,) * 9, (1,) * 10, (3,) * 16,
                           (0,) * 17, ((0, 1),), "01", 0):
            # What is junk elsewhere may be a row of "ring".
            if not is_right_row("ring", len(row) if type(row) is tuple and 0 < len(row) < 9 else -1, row):
                self.check_row(gray_row, row)
        for row in JUNK + ((), (0,), (1, 0, 1), (0,) * 15, (0,) * 17, (0,) * 18, (0, 2), (0, 3), [0, 1], (True, 1), (False, 0),
                           (None, 1), "01", 0, ((0, 1),), (0, -1), ("0", "1")):
            self.check_row(row_pictured, row)
        for row in mutants((0, 1, 2, 3)):
            if type(row) is not tuple or not 0 < len(row) < 9 or not is_right_row("ring", len(row), row):
                self.check_row(gray_row, row)


if __name__ == "__main__":
    unittest.main()
