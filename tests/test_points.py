import collections
import functools
import itertools
import random
import time
import unittest

from ownpartners import errors
from ownpartners.books import book_of, has_row, nought_book, rows_of, whole_book
from ownpartners.combining import beside, partner_of
from ownpartners.own import is_fourfold
from ownpartners.points import (
    is_point, judge_meetings, judge_norms, least_norm, meetings_hold, norm, norms_hold, point_number, point_numbers,
    points_of)
from tests import reference
from tests.cases import HEXA, JUNK, NO_INTEGERS, PAIRS, RING, TETRA, BookCase, mutants, same
from tests.test_own import GOLAY, OCTA, OCTAD, books_with_rows

KINDS = ("two", "three", "ring")
SMALL = (("two", 1), ("two", 2), ("two", 3), ("three", 1), ("three", 2), ("three", 3), ("ring", 1), ("ring", 2), ("ring", 3))
PAIR = ("two", 2, ((1, 1),))
GREAT = (10 ** 12, -10 ** 12, 10 ** 12 - 1, 1 - 10 ** 12, 999999999989, -4, 7)


@functools.lru_cache(maxsize=None)
def some_books():
    """Small books of the three kinds, all or many, with their rows."""
    found = []
    for kind, n in SMALL:
        books = books_with_rows(kind, n)
        found.extend(random.Random(f"{kind} {n}").sample(books, min(24, len(books))))
    return tuple(found)


@functools.lru_cache(maxsize=None)
def box(n):
    """All tuples of integers near 0, by their norms; all those of norms up to 35 are among them."""
    found = collections.defaultdict(list)
    for x in itertools.product(range(-5, 8), repeat=n):
        found[sum(a * a for a in x)].append(x)
    return found


def remainder(kind, x):
    return tuple(a % reference.SIZES[kind] for a in x)


def points_in_box(kind, n, rows):
    return {m: [x for x in found if remainder(kind, x) in rows] for m, found in box(n).items()}


def is_right_point(kind, n, rows, thing):
    if type(thing) is not tuple or len(thing) != n or any(type(a) is not int for a in thing):
        return False
    return remainder(kind, thing) in rows


def is_right(kind, n, rows, thing, due, is_shown):
    """Whether any value is a certificate: that it is always so, if that is due, or a point that shows that it is not."""
    if same(thing, ("always",)):
        return due
    if type(thing) is not tuple or len(thing) != 2 or not same(thing[0], "point"):
        return False
    return is_right_point(kind, n, rows, thing[1]) and is_shown(thing[1])


def product_sum(x, y):
    return sum(a * b for a, b in zip(x, y))


class Points(BookCase):
    def test_as_going_through_all_tuples_tells(self):
        for book, rows in some_books():
            kind, n, _ = book
            found = points_in_box(kind, n, rows)
            due = [tuple(sorted(found.get(m, ()))) for m in range(33)]
            self.assertEqual(point_numbers(book, 32), tuple(map(len, due)))
            for m in (0, 1, 2, 3, 4, 5, 8, 9, 12, 16, 18, 27, 32):
                self.assertEqual(points_of(book, m), due[m])
                self.assertEqual(point_number(book, m), len(due[m]))
                self.assertEqual(point_numbers(book, m), tuple(map(len, due[:m + 1])))
                for x in due[m][:20]:
                    self.assertEqual(norm(book, x), m)
            least = min(m for m in found if m > 0 and found[m])
            self.assertEqual(least_norm(book), least)

    def test_is_point_of_all_small_tuples(self):
        for book, rows in some_books():
            kind, n, _ = book
            for x in itertools.product(range(-4, 6) if n < 3 else (-5, -1, 0, 2, 3, 8), repeat=n):
                self.assert_is_bool(remainder(kind, x) in rows, is_point(book, x))

    def test_negative_and_great_integers(self):
        chance = random.Random("great")
        for book, rows in some_books():
            kind, n, _ = book
            q = reference.SIZES[kind]
            for _ in range(5):
                x = tuple(chance.choice(GREAT) for _ in range(n))
                self.assert_is_bool(remainder(kind, x) in rows, is_point(book, x))
                point = tuple(a + q * chance.randint(-10 ** 11, 10 ** 11) for a in chance.choice(sorted(rows)))
                self.assert_is_bool(True, is_point(book, point))
                self.assertEqual(norm(book, point), sum(a * a for a in point))

    def test_sums_and_differences_of_points_are_points(self):
        for book, _ in some_books():
            points = [x for m in range(9) for x in points_of(book, m)][:25]
            for x, y in itertools.product(points, repeat=2):
                self.assertTrue(is_point(book, tuple(a + b for a, b in zip(x, y))))
                self.assertTrue(is_point(book, tuple(a - b for a, b in zip(x, y))))

    def test_norms_by_the_weights(self):
        for book, _ in some_books():
            for m in range(20):
                for x in points_of(book, m):
                    row = remainder(book[0], x)
                    if book[0] == "ring":
                        self.assertEqual(m % 8, reference.euclid(row) % 8)
                    else:
                        self.assertEqual(m % {"two": 4, "three": 3}[book[0]], reference.weight(row) % {"two": 4, "three": 3}[book[0]])

    def test_known_numbers(self):
        self.assertEqual(point_numbers(OCTAD, 16)[::4], (1, 240, 2160, 6720, 17520))
        self.assertEqual(sum(point_numbers(OCTAD, 16)), 1 + 240 + 2160 + 6720 + 17520)
        # The points of this book of "ring" are those, half as far: the norms twice as great.
        self.assertEqual(point_numbers(OCTA, 32)[::8], (1, 240, 2160, 6720, 17520))
        # The eight rows of the weight 3, each with the marks 1 and -1.
        self.assertEqual([point_number(TETRA, m) for m in (1, 2, 3, 4)], [0, 0, 8, 0])
        self.assertEqual([point_number(whole_book("two", 2), m) for m in range(6)], [1, 4, 4, 0, 4, 8])
        self.assertEqual([point_number(nought_book("three", 1), m) for m in (0, 9, 36, 1, 3)], [1, 2, 2, 0, 0])

    def test_least_norms_of_longer_books(self):
        self.assertEqual([least_norm(book) for book in (OCTAD, OCTA, GOLAY, TETRA, PAIRS, RING)], [4, 8, 6, 3, 2, 4])
        for n in (1, 2, 12, 16):
            self.assertEqual([least_norm(nought_book(kind, n)) for kind in KINDS], [4, 9, 16])
        for n in (1, 2, 3, 4):
            self.assertEqual([least_norm(whole_book(kind, n)) for kind in KINDS], [1, 1, 1])
        self.assertEqual(least_norm(("two", 8, ((1,) * 8,))), 4)
        self.assertEqual(least_norm(("three", 12, ((1,) * 12,))), 9)
        self.assertEqual([least_norm(("ring", n, ((2,) * n,))) for n in (1, 2, 3, 4, 5)], [4, 8, 12, 16, 16])
        self.assertEqual(least_norm(("ring", 5, ((1, 1, 2, 2, 2), (0, 2, 0, 0, 2)))), 8)

    def test_at_the_limits(self):
        begun = time.perf_counter()
        for kind, many in (("two", 8), ("three", 5), ("ring", 4)):
            chance = random.Random("limits " + kind)
            for n in (11, 12):
                book = book_of(kind, n, reference.some_rows(chance, kind, n, many))
                numbers = point_numbers(book, 32)
                for m in range(33):
                    if 0 < numbers[m] <= 3000:
                        found = points_of(book, m)
                        self.assertEqual(len(found), numbers[m])
                        self.assertEqual(list(found), sorted(set(found)))
                        self.assertTrue(all(is_point(book, x) and product_sum(x, x) == m for x in found[:50]))
                self.assertEqual(point_number(book, 32), numbers[32])
        self.assertLess(time.perf_counter() - begun, 20)

    def test_calls_by_name(self):
        self.assert_is_bool(True, is_point(thing=(3, -1), book=PAIR))
        self.assertEqual(norm(point=(3, -1), book=PAIR), 10)
        self.assertEqual(points_of(m=2, book=PAIR), ((-1, -1), (-1, 1), (1, -1), (1, 1)))
        self.assertEqual([point_number(m=4, book=PAIR), point_numbers(most=4, book=PAIR)], [4, (1, 0, 4, 0, 4)])
        self.assertEqual(least_norm(book=PAIR), 2)
        self.assertEqual(judge_meetings(x=(1, 1), book=PAIR), ("always",))
        self.assertTrue(meetings_hold(thing=("point", (3, -1)), x=(1, 0), book=PAIR))
        self.assertEqual(judge_norms(t=2, book=PAIR), ("always",))
        self.assertTrue(norms_hold(thing=("point", (1, 1)), t=4, book=PAIR))


class Meetings(BookCase):
    def tuples(self, n):
        chance = random.Random(n)
        yield from itertools.product(range(-2, 3), repeat=n) if n < 3 else [
            tuple(chance.randint(-6, 6) for _ in range(n)) for _ in range(25)]
        for _ in range(4):
            yield tuple(chance.choice(GREAT) for _ in range(n))

    def test_as_going_through_all_rows_tells(self):
        for book, rows in some_books():
            kind, n, _ = book
            q = reference.SIZES[kind]
            for x in self.tuples(n):
                def is_shown(y):
                    return product_sum(x, y) % q != 0
                due = not any(is_shown(row) for row in rows)
                certificate = judge_meetings(book, x)
                self.assertTrue(is_right(kind, n, rows, certificate, due, is_shown), (book, x, certificate))
                self.assert_is_bool(True, meetings_hold(book, x, certificate))
                self.assert_is_bool(due, meetings_hold(book, x, ("always",)))
                self.assertEqual(due, is_point(partner_of(book), x))
                for y in itertools.product((-3, 0, 1, 2), repeat=n):
                    self.assert_is_bool(is_right(kind, n, rows, ("point", y), due, is_shown),
                                        meetings_hold(book, x, ("point", y)))

    def test_changed_certificates_hold_just_if_they_are_right(self):
        for book, rows in random.Random("meetings").sample(some_books(), 50):
            kind, n, _ = book
            for x in itertools.islice(self.tuples(n), 0, None, 4):
                def is_shown(y):
                    return product_sum(x, y) % reference.SIZES[kind] != 0
                due = not any(is_shown(row) for row in rows)
                for thing in mutants(judge_meetings(book, x)):
                    self.assert_is_bool(is_right(kind, n, rows, thing, due, is_shown), meetings_hold(book, x, thing))

    def test_great_points_hold_too(self):
        self.assert_is_bool(True, meetings_hold(PAIR, (1, 0), ("point", (10 ** 12 + 1, -10 ** 12 - 1))))
        self.assert_is_bool(False, meetings_hold(PAIR, (1, 0), ("point", (10 ** 12, -10 ** 12))))
        self.assert_is_bool(False, meetings_hold(PAIR, (1, 0), ("point", (10 ** 12 + 1, 10 ** 12))))

    def test_any_value(self):
        things = ("always", ["always"], ("always", None), ("point",), ("point", None), ("point", (1, 1), 0), ("point", [1, 1]),
                  ("point", (True, 1)), (("always",),), ("point", (1, "1")), ("points", (1, 1)), ("point", ((1, 1),)))
        for book in (PAIR, ("three", 2, ((1, 2),)), RING, ("ring", 1, ((2,),)), nought_book("two", 2)):
            kind, n, _ = book
            rows = set(rows_of(book))
            for x in ((0,) * n, (1,) + (0,) * (n - 1), (-1,) * n):
                def is_shown(y):
                    return product_sum(x, y) % reference.SIZES[kind] != 0
                due = not any(is_shown(row) for row in rows)
                for thing in JUNK + things:
                    self.assert_is_bool(is_right(kind, n, rows, thing, due, is_shown), meetings_hold(book, x, thing))


class Norms(BookCase):
    def check_norms(self, book, rows, t, due):
        kind, n, _ = book

        def is_shown(y):
            return product_sum(y, y) % t != 0
        certificate = judge_norms(book, t)
        self.assertTrue(is_right(kind, n, rows, certificate, due, is_shown), (book, t, certificate))
        self.assert_is_bool(True, norms_hold(book, t, certificate))
        self.assert_is_bool(due, norms_hold(book, t, ("always",)))
        return certificate, is_shown

    def test_as_going_through_all_tuples_tells(self):
        for book, rows in some_books():
            norms = [m for m, found in points_in_box(book[0], book[1], rows).items() if found]
            for t in range(1, 17):
                self.check_norms(book, rows, t, all(m % t == 0 for m in norms))

    def test_changed_certificates_hold_just_if_they_are_right(self):
        for book, rows in random.Random("norms").sample(some_books(), 40):
            norms = [m for m, found in points_in_box(book[0], book[1], rows).items() if found]
            for t in (1, 2, 3, 4, 8, 9, 16):
                due = all(m % t == 0 for m in norms)
                certificate, is_shown = self.check_norms(book, rows, t, due)
                for thing in mutants(certificate):
                    self.assert_is_bool(is_right(book[0], book[1], rows, thing, due, is_shown), norms_hold(book, t, thing))
                for y in itertools.product((-3, 0, 2, 5), repeat=book[1]):
                    thing = ("point", y)
                    self.assert_is_bool(is_right(book[0], book[1], rows, thing, due, is_shown), norms_hold(book, t, thing))

    def always(self, book):
        """Of which numbers all norms are multiples."""
        rows = set(rows_of(book))
        return [t for t in range(1, 17) if self.check_norms(book, rows, t, judge_norms(book, t) == ("always",))[0][0] == "always"]

    def test_known_books(self):
        self.assertEqual(self.always(OCTAD), [1, 2, 4])
        self.assertEqual(self.always(OCTA), [1, 2, 4, 8])
        self.assertEqual(self.always(GOLAY), [1, 3])
        self.assertEqual(self.always(PAIRS), [1, 2])
        self.assertEqual(self.always(RING), [1, 2, 4])
        self.assertEqual(self.always(nought_book("two", 12)), [1, 2, 4])
        self.assertEqual(self.always(nought_book("three", 5)), [1, 3, 9])
        self.assertEqual(self.always(nought_book("ring", 3)), [1, 2, 4, 8, 16])
        self.assertEqual(self.always(("ring", 1, ((2,),))), [1, 2, 4])
        self.assertEqual(self.always(beside(OCTAD, PAIRS)), [1, 2])

    def test_fourfold_just_if_all_norms_are_multiples_of_4(self):
        for n in (1, 2, 3, 4):
            for book, _ in books_with_rows("two", n):
                self.assertEqual(judge_norms(book, 4) == ("always",), is_fourfold(book))

    def test_sums_of_two(self):
        # All norms of the rows of the basis are multiples of 4, and that of a sum is not.
        book = ("two", 6, ((1, 0, 1, 1, 1, 0), (0, 1, 1, 1, 0, 1)))
        self.assert_is_bool(True, norms_hold(book, 4, judge_norms(book, 4)))
        self.assertEqual(self.always(("two", 5, ((1, 0, 1, 1, 1), (0, 1, 1, 1, 1)))), [1, 2])

    def test_any_value(self):
        things = ("always", ["always"], ("always", None), ("point",), ("point", None), ("point", (1, 1), 0), ("point", [1, 1]),
                  ("point", (True, 1)), (("always",),), ("point", (1, "1")), ("point", ((1, 1),)))
        for book in (PAIR, RING, ("three", 1, ()), ("ring", 1, ((2,),))):
            rows = set(rows_of(book))
            for t in (1, 2, 3, 4, 9, 16):
                _, is_shown = self.check_norms(book, rows, t, judge_norms(book, t) == ("always",))
                for thing in JUNK + things:
                    due = is_right(book[0], book[1], rows, thing, judge_norms(book, t) == ("always",), is_shown)
                    self.assert_is_bool(due, norms_hold(book, t, thing))


class Wrong(BookCase):
    CALLS = ((is_point, "thing"), (norm, "point"), (point_number, "m"), (points_of, "m"), (point_numbers, "most"),
             (judge_meetings, "x"), (meetings_hold, "x", "thing"), (judge_norms, "t"), (norms_hold, "t", "thing"))

    def check_book(self, error, book):
        self.assert_bears(error, book, least_norm, book)
        self.assert_bears(error, book, least_norm, book=book)
        for function, *names in self.CALLS:
            for value in (None, 0, (0, 0), ["value"]):
                self.assert_bears(error, book, function, book, *[value] * len(names))
                self.assert_bears(error, book, function, **{name: value for name in names[::-1]}, book=book)

    def test_bad_books(self):
        for book in JUNK:
            self.check_book(errors.BadBook, book)

    def test_other_kinds(self):
        for book in (HEXA, nought_book("four", 1), whole_book("four", 2), ("four", 2, ((1, 3),))):
            self.check_book(errors.OtherKind, book)

    def test_no_value_of_the_wrong_sort_is_a_point(self):
        for book in (PAIR, TETRA, RING, whole_book("two", 2), whole_book("ring", 1)):
            kind, n, _ = book
            for thing in JUNK + ([0, 0], (True, 1), (1, True), (0, None), (0,) * 5, (), (1, "1"), ((0, 0),), {0: 0, 1: 0},
                                 (1, 1), (-1, 3), (2,), (10 ** 12,), (10 ** 12, -10 ** 12), (-2, 2, 0, 0)):
                self.assert_is_bool(is_right_point(kind, n, set(rows_of(book)), thing), is_point(book, thing))

    def test_bad_points(self):
        for book in (PAIR, TETRA, RING, ("ring", 1, ((2,),))):
            kind, n, _ = book
            rows = set(rows_of(book))
            for thing in JUNK + ((1, 0), (True, True), [1, 1], (1, 1, 1), (), (1,), (0, 1, 0, 0), (-1, 0, 0, 0), (False,), (10 ** 12 + 1,)):
                if is_right_point(kind, n, rows, thing):
                    self.assertEqual(norm(book, thing), product_sum(thing, thing))
                else:
                    self.assert_bears(errors.BadRow, thing, norm, book, thing)
                    self.assert_bears(errors.BadRow, thing, norm, point=thing, book=book)
        for thing in mutants((3, -1)):
            if not is_right_point("two", 2, {(0, 0), (1, 1)}, thing):
                self.assert_bears(errors.BadRow, thing, norm, PAIR, thing)

    def test_bad_tuples(self):
        for x in JUNK + ((1,), (1, 1, 1), [1, 1], (True, 1), (1, None), (), (1, "1"), ((1, 1),), {0: 1, 1: 1}):
            if type(x) is tuple and len(x) == 2 and all(type(a) is int for a in x):
                continue
            self.assert_bears(errors.BadRow, x, judge_meetings, PAIR, x)
            self.assert_bears(errors.BadRow, x, judge_meetings, x=x, book=PAIR)
            for thing in (None, ("always",), ["thing"]):
                self.assert_bears(errors.BadRow, x, meetings_hold, PAIR, x, thing)
            self.assert_bears(errors.BadRow, x, meetings_hold, thing=None, x=x, book=PAIR)

    def test_bad_norms(self):
        for m in NO_INTEGERS + (-1, -10 ** 99, True, False, 1.5):
            for function, name in ((point_number, "m"), (points_of, "m"), (point_numbers, "most")):
                for book in (PAIR, TETRA, RING):
                    self.assert_bears(errors.BadNumber, m, function, book, m)
                    self.assert_bears(errors.BadNumber, m, function, **{name: m}, book=book)

    def test_bad_divisors(self):
        for t in NO_INTEGERS + (0, -1, 17, -16, 10 ** 99, True, False):
            for book in (PAIR, TETRA, RING):
                self.assert_bears(errors.BadNumber, t, judge_norms, book, t)
                self.assert_bears(errors.BadNumber, t, judge_norms, t=t, book=book)
                for thing in (None, ("always",), ["thing"]):
                    self.assert_bears(errors.BadNumber, t, norms_hold, book, t, thing)
                self.assert_bears(errors.BadNumber, t, norms_hold, thing=None, t=t, book=book)

    def test_rows_are_points(self):
        for book, rows in some_books():
            for row in rows:
                self.assertTrue(is_point(book, row) and has_row(book, row))


if __name__ == "__main__":
    unittest.main()
