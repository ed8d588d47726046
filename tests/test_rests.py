import functools
import itertools
import random
import time
import unittest

from ownpartners import errors
from ownpartners.books import book_of, how_many, nought_book, rows_of, whole_book
from ownpartners.combining import beside, partner_of
from ownpartners.counts import counts_of
from ownpartners.rests import (
    are_one_rest, depth, far_holds, farthest, is_tight, judge_far, nearest, rest_counts, weights_of_partner)
from tests import reference
from tests.cases import BOOKS, HEXA, JUNK, NO_INTEGERS, PAIRS, RING, TETRA, BookCase, mutants, same
from tests.test_blocks import HAMMING
from tests.test_own import OCTAD, books_with_rows, is_right_row

THREE = ("two", 3, ((1, 1, 1),))
SMALL = (("two", 1), ("two", 2), ("two", 3), ("two", 4), ("three", 1), ("three", 2), ("three", 3), ("four", 1),
         ("four", 2), ("four", 3), ("ring", 1), ("ring", 2), ("ring", 3))
TERNARY = ("three", 4, ((1, 0, 1, 1), (0, 1, 1, 2)))
FIVE = ("four", 5, ((1, 0, 0, 1, 1), (0, 1, 0, 1, 2), (0, 0, 1, 1, 3)))


def less(kind, x, y):
    negative = {"two": 1, "three": 2, "four": 1, "ring": 3}[kind]
    return reference.add_rows(kind, x, reference.times_row(kind, negative, y))


def differing(x, y):
    return sum(a != b for a, b in zip(x, y))


@functools.lru_cache(maxsize=None)
def rests(book):
    """A dict that tells for each row the number of its rest, and the tuple of the depths of the rests."""
    kind, n, _ = book
    rows = rows_of(book)
    found, depths = {}, []
    for x in reference.all_rows(kind, n):
        if x not in found:
            whole = [reference.add_rows(kind, x, row) for row in rows]
            found.update((one, len(depths)) for one in whole)
            depths.append(min(map(reference.weight, whole)))
    return found, tuple(depths)


@functools.lru_cache(maxsize=None)
def small_books():
    """Small books of all kinds with at most 64 rests, with their rows."""
    found = []
    for kind, n in SMALL:
        books = [(book, rows) for book, rows in books_with_rows(kind, n)]
        found.extend(random.Random(f"{kind} {n}").sample(books, min(len(books), 30)))
    return tuple(found)


@functools.lru_cache(maxsize=None)
def greater_books():
    """Longer books of all kinds with at most 64 rests and 256 rows."""
    found = [OCTAD, HAMMING, TETRA, RING, PAIRS, FIVE, beside(HAMMING, THREE), partner_of(beside(THREE, THREE))]
    for kind, lengths in (("two", range(5, 15)), ("three", range(4, 9)), ("four", range(3, 8)), ("ring", range(3, 8))):
        chance = random.Random("rests " + kind)
        for n in lengths:
            many = 0
            while many < 3:
                book = partner_of(book_of(kind, n, reference.some_rows(chance, kind, n, 6 if kind == "two" else 3)))
                if how_many(book) <= 256 and reference.SIZES[kind] ** n // how_many(book) <= 64:
                    found.append(book)
                    many += 1
                elif how_many(book) > 256:
                    break
    return tuple(found)


def is_right(book, r, thing):
    """Whether any value is a certificate, by the words of [12.5]."""
    kind, n, _ = book
    found, depths = rests(book)
    if type(thing) is not tuple or len(thing) != 2 or type(thing[0]) is not str:
        return False
    if thing[0] == "far":
        return is_right_row(kind, n, thing[1]) and depths[found[thing[1]]] > r
    if thing[0] != "within" or type(thing[1]) is not tuple or len(thing[1]) != len(depths):
        return False
    if not all(is_right_row(kind, n, row) and reference.weight(row) <= r for row in thing[1]):
        return False
    return len({found[row] for row in thing[1]}) == len(depths)


class Depths(BookCase):
    def check_book(self, book):
        kind, n, _ = book
        _, depths = rests(book)
        self.assertEqual(rest_counts(book), tuple(depths.count(w) for w in range(n + 1)))
        self.assertEqual(sum(rest_counts(book)) * how_many(book), reference.SIZES[kind] ** n)
        self.assertEqual(farthest(book), max(depths))
        others = {reference.weight(row) for row in rows_of(partner_of(book)) if any(row)}
        self.assertEqual(weights_of_partner(book), len(others))
        if kind != "ring":
            self.assertLessEqual(farthest(book), weights_of_partner(book))
        weights = [reference.weight(row) for row in rows_of(book) if any(row)]
        self.assert_is_bool(bool(weights) and 2 * max(depths) < min(weights), is_tight(book))
        for r in range(n + 2):
            certificate = judge_far(book, r)
            self.assertTrue(is_right(book, r, certificate), (book, r, certificate))
            self.assertEqual(certificate[0] == "within", r >= max(depths))
            self.assert_is_bool(True, far_holds(book, r, certificate))

    def test_as_going_through_all_rows_tells(self):
        for book, _ in small_books():
            self.check_book(book)

    def test_longer_books(self):
        begun = time.perf_counter()
        for book in greater_books():
            self.check_book(book)
        self.assertLess(time.perf_counter() - begun, 60)
        self.assertGreater(len(greater_books()), 60)

    def test_tight_books_by_the_words(self):
        for book, rows in small_books():
            kind, n, _ = book
            weights = [reference.weight(row) for row in rows if any(row)]
            due = bool(weights)
            for x in reference.all_rows(kind, n) if weights else ():
                near = sum(2 * differing(x, row) < min(weights) for row in rows)
                self.assertLessEqual(near, 1)
                due = due and near == 1
            self.assert_is_bool(due, is_tight(book))
        self.assertEqual([is_tight(book) for book in (THREE, HAMMING, TETRA, FIVE, OCTAD, PAIRS, RING)],
                         [True, True, True, True, False, False, False])
        for kind in reference.KINDS:
            self.assert_is_bool(True, is_tight(whole_book(kind, 3)))
            self.assert_is_bool(False, is_tight(book=nought_book(kind, 2)))

    def test_rows_and_what_is_nearest(self):
        for book, rows in small_books():
            kind, n, _ = book
            found, depths = rests(book)
            for x in reference.all_rows(kind, n)[:70]:
                near = min(differing(x, row) for row in rows)
                self.assertEqual(depth(book, x), near)
                self.assertEqual(near, depths[found[x]])
                self.assertEqual(nearest(book, x), tuple(sorted(row for row in rows if differing(x, row) == near)))

    def test_rows_of_longer_books(self):
        for book in greater_books():
            kind, n, _ = book
            rows = rows_of(book)
            for x in reference.some_rows(random.Random(str(book)), kind, n, 4) + rows[:2]:
                near = min(differing(x, row) for row in rows)
                self.assertEqual(depth(book, x), near)
                self.assertEqual(nearest(book, x), tuple(row for row in rows if differing(x, row) == near))

    def test_pairs_of_one_rest(self):
        for book, _ in small_books():
            kind, n, _ = book
            found, _ = rests(book)
            rows = random.Random(str(book)).sample(reference.all_rows(kind, n), min(len(found), 12))
            for x, y in itertools.product(rows, repeat=2):
                self.assert_is_bool(found[x] == found[y], are_one_rest(book, x, y))
        chance = random.Random("one rest")
        for book in greater_books():
            kind, n, _ = book
            x, y = reference.some_rows(chance, kind, n, 2)
            self.assertEqual(are_one_rest(book, x, y), less(kind, x, y) in rows_of(book))
            self.assert_is_bool(True, are_one_rest(book, x, reference.add_rows(kind, x, chance.choice(rows_of(book)))))

    def test_at_the_limits(self):
        begun = time.perf_counter()
        books = [book_of("two", 14, tuple((0,) * k + (1,) * 6 + (0,) * (8 - k) for k in range(8))),
                 ("four", 7, tuple((0,) * k + (1,) + (0,) * (3 - k) + row for k, row in enumerate(
                     ((1, 2, 3), (0, 1, 1), (1, 1, 1), (3, 2, 0))))),
                 ("ring", 7, tuple((0,) * k + (1,) + (0,) * (3 - k) + row for k, row in enumerate(
                     ((1, 2, 3), (0, 1, 1), (1, 1, 1), (3, 2, 0)))))]
        for book in books:
            self.assertEqual((how_many(book), how_many(partner_of(book))), (256, 64))
            self.check_book(book)
            self.assertEqual(weights_of_partner(partner_of(book)), len([w for w in counts_of(book)[1:] if w]))
        self.assertLess(time.perf_counter() - begun, 10)
        self.assertEqual(weights_of_partner(nought_book("two", 8)), 8)

    def test_calls_by_name(self):
        self.assertEqual([rest_counts(book=THREE), farthest(book=THREE), weights_of_partner(book=THREE)], [(1, 3, 0, 0), 1, 1])
        self.assertEqual([depth(row=(1, 1, 0), book=THREE), nearest(row=(1, 1, 0), book=THREE)], [1, ((1, 1, 1),)])
        self.assert_is_bool(True, are_one_rest(other=(0, 0, 1), one=(1, 1, 0), book=THREE))
        self.assert_is_bool(False, are_one_rest(THREE, (0, 0, 1), (1, 0, 1)))
        self.assertEqual(judge_far(r=0, book=THREE)[0], "far")
        self.assertTrue(far_holds(thing=("far", (1, 0, 0)), r=0, book=THREE))


class Holds(BookCase):
    def test_every_row_is_far_just_if_it_is(self):
        for book, _ in small_books():
            kind, n, _ = book
            for r in range(n + 1):
                for x in reference.all_rows(kind, n)[:40]:
                    self.assert_is_bool(is_right(book, r, ("far", x)), far_holds(book, r, ("far", x)))

    def test_other_rows_of_each_rest(self):
        for book, _ in small_books():
            found, _ = rests(book)
            chance = random.Random(str(book))
            for r in range(book[1] + 1):
                chosen = {}
                for x in chance.sample(sorted(found), len(found)):
                    if reference.weight(x) <= r or chance.random() < 0.1:
                        chosen.setdefault(found[x], x)
                rows = list(chosen.values())
                for thing in (tuple(rows), tuple(rows[::-1]), tuple(rows[1:]), tuple(rows + rows[:1]), tuple(rows[1:] + rows[1:2])):
                    thing = ("within", thing)
                    self.assert_is_bool(is_right(book, r, thing), far_holds(book, r, thing))

    def test_changed_certificates_hold_just_if_they_are_right(self):
        for book, _ in random.Random("mutants").sample(small_books(), 50):
            for r in {0, farthest(book), farthest(book) - 1, 1} - {-1}:
                things = list(mutants(judge_far(book, r)))
                for thing in random.Random(r).sample(things, min(len(things), 120)):
                    self.assert_is_bool(is_right(book, r, thing), far_holds(book, r, thing))

    def test_changed_certificates_of_longer_books(self):
        chance = random.Random("longer")
        for book in chance.sample(greater_books(), 20):
            for r in (farthest(book), farthest(book) - 1, 100):
                if r >= 0:
                    things = list(mutants(judge_far(book, r)))
                    for thing in chance.sample(things, min(len(things), 30)):
                        self.assert_is_bool(is_right(book, r, thing), far_holds(book, r, thing))

    def test_certificates_for_other_numbers_and_books(self):
        for book in BOOKS[:3] + (THREE, HAMMING):
            for r, other in itertools.product(range(book[1] + 1), repeat=2):
                for one in (book, nought_book(book[0], 3), whole_book(book[0], book[1])):
                    thing = judge_far(one, other)
                    self.assert_is_bool(is_right(book, r, thing), far_holds(book, r, thing))

    def test_any_value(self):
        things = ("within", ("within",), ("far",), ("within", ()), ("within", None), ("far", None), ("far", [1, 0, 0]), ["far", (1, 0, 0)],
                  ("far", (True, 0, 0)), ("far", (1, 0, 0), 0), ("within", [(0, 0, 0), (1, 0, 0), (0, 1, 0), (0, 0, 1)]),
                  ("within", ((0, 0, 0), (1, 0, 0), (0, 1, 0), (0, 0, True))), ("within", ((0, 0, 0), (1, 0, 0), (0, 1, 0), None)),
                  ("within", ((0, 0, 0),) * 4), ("within", ((0, 0, 0), (1, 0, 0), (0, 1, 0), (0, 0, 1))), ("far", (1, 0)),
                  ("within", ((0, 0, 0), (1, 0, 0), (0, 1, 0), (1, 1, 0))), (("far",), (1, 0, 0)), ("far", (2, 0, 0)), ("far", "100"))
        for book in (THREE, PAIRS, RING, ("ring", 1, ((2,),)), whole_book("four", 1), nought_book("three", 1)):
            for r in (0, 1, 2, 100):
                for thing in JUNK + things:
                    self.assert_is_bool(is_right(book, r, thing), far_holds(book, r, thing))


class Wrong(BookCase):
    ALONE = (rest_counts, farthest, weights_of_partner, is_tight)
    CALLS = ((depth, "row"), (nearest, "row"), (are_one_rest, "one", "other"), (judge_far, "r"), (far_holds, "r", "thing"))

    def test_bad_books(self):
        for book in JUNK:
            for function in self.ALONE:
                self.assert_bears(errors.BadBook, book, function, book)
                self.assert_bears(errors.BadBook, book, function, book=book)
            for function, *names in self.CALLS:
                for value in (None, 0, (0, 0), ["value"]):
                    self.assert_bears(errors.BadBook, book, function, book, *[value] * len(names))
                    self.assert_bears(errors.BadBook, book, function, **{name: value for name in names}, book=book)

    def check_row(self, book, row):
        for function in (depth, nearest):
            self.assert_bears(errors.BadRow, row, function, book, row)
            self.assert_bears(errors.BadRow, row, function, row=row, book=book)
        right = (0,) * book[1]
        other = ["other"]
        self.assert_bears(errors.BadRow, row, are_one_rest, book, row, right)
        self.assert_bears(errors.BadRow, row, are_one_rest, book, right, row)
        self.assert_bears(errors.BadRow, row, are_one_rest, other=other, one=row, book=book)

    def test_bad_rows(self):
        for book in (THREE, TETRA, HEXA, RING, ("two", 1, ()), ("ring", 1, ((2,),))):
            kind, n, _ = book
            q = reference.SIZES[kind]
            for row in JUNK + ((), (0,) * (n - 1), (0,) * (n + 1), [0] * n, (q,) + (0,) * (n - 1), (-1,) * n, (True,) * n,
                               (None,) * n, ("0",) * n, "0" * n, (0,) * (n - 1) + (False,), 0):
                if not is_right_row(kind, n, row):
                    self.check_row(book, row)

    def test_bad_numbers(self):
        for r in NO_INTEGERS + (-1, -10 ** 99, True, False):
            for book in (THREE, TETRA, nought_book("two", 1)):
                self.assert_bears(errors.BadNumber, r, judge_far, book, r)
                self.assert_bears(errors.BadNumber, r, judge_far, r=r, book=book)
                for thing in (None, ("far", (1, 0, 0)), ["thing"]):
                    self.assert_bears(errors.BadNumber, r, far_holds, book, r, thing)
                self.assert_bears(errors.BadNumber, r, far_holds, thing=None, r=r, book=book)
        self.assertTrue(same(judge_far(whole_book("two", 1), 100), ("within", ((0,),))))


if __name__ == "__main__":
    unittest.main()
