import functools
import itertools
import math
import random
import time
import unittest

from ownpartners import errors
from ownpartners.blocks import blocks_hold, blocks_of, judge_blocks, told_number, triangle
from ownpartners.books import book_of, nought_book, rows_of, whole_book
from ownpartners.combining import beside, partner_of
from ownpartners.counts import counts_of
from tests import reference
from tests.cases import HEXA, JUNK, NO_INTEGERS, PAIRS, RING, TETRA, BookCase, mutants, same
from tests.test_own import OCTA, OCTAD, books_with_rows
from tests.test_shortrows import SEVEN, glued_books, laid

SIX = ("two", 6, ((1, 1, 0, 0, 1, 1), (0, 0, 1, 1, 1, 1)))
HAMMING = partner_of(SEVEN)
# The book of all sums of a row of ones and of the values of the four coordinates of 16 points.
REED = book_of("two", 16, ((1,) * 16,) + tuple(tuple(k >> bit & 1 for k in range(16)) for bit in range(4)))


@functools.lru_cache(maxsize=None)
def some_books():
    """Small books of "two", all or many, and middling ones, with their rows."""
    found = [pair for n in (1, 2, 3) for pair in books_with_rows("two", n)]
    found += random.Random("blocks").sample(books_with_rows("two", 4), 40)
    chance = random.Random("more blocks")
    for n in (5, 6, 6, 7):
        for _ in range(6):
            book = book_of("two", n, reference.some_rows(chance, "two", n, chance.randint(1, 4)))
            found.append((book, set(rows_of(book))))
    for book in (SIX, SEVEN, HAMMING, OCTAD):
        found.append((book, set(rows_of(book))))
    return tuple(found)


def blocks(rows, w):
    return sorted(tuple(place for place, mark in enumerate(row) if mark) for row in rows if sum(row) == w)


def lots(n, t):
    return list(itertools.combinations(range(n), t))


def met(found, lot):
    return sum(set(lot) <= set(block) for block in found)


def numbers_met(n, rows, w, t):
    """The numbers of blocks that meet the lots of t places, by the words of [12.1]."""
    found = blocks(rows, w)
    return {lot: met(found, lot) for lot in lots(n, t)}


def is_right(t, numbers, thing):
    """Whether any value is a certificate, the lots being met so often as these numbers tell."""
    if type(thing) is not tuple or not thing or type(thing[0]) is not str:
        return False
    if thing[0] == "alike" and len(thing) == 2:
        return type(thing[1]) is int and set(numbers.values()) == {thing[1]}
    if thing[0] != "unlike" or len(thing) != 3:
        return False
    if any(type(lot) is not tuple or any(type(place) is not int for place in lot) or lot not in numbers for lot in thing[1:]):
        return False
    return numbers[thing[1]] != numbers[thing[2]]


def told_by_words(n, rows, others):
    """The told number, by the words of [12.2]."""
    weights = [sum(row) for row in rows if any(row)]
    if not weights:
        return 0
    d = min(weights)
    fit = [t for t in range(1, d) if len({sum(row) for row in others if 1 <= sum(row) <= n - t}) <= d - t]
    return max(fit, default=0)


class Blocks(BookCase):
    def test_blocks_of_all_weights(self):
        for book, rows in some_books():
            for w in range(book[1] + 1):
                self.assertEqual(blocks_of(book, w), tuple(blocks(rows, w)))
            self.assertEqual(blocks_of(book, 0), ((),))
        self.assertEqual(blocks_of(w=4, book=SIX), ((0, 1, 2, 3), (0, 1, 4, 5), (2, 3, 4, 5)))
        self.assertEqual(blocks_of(nought_book("two", 16), 3), ())

    def test_as_going_through_all_lots_and_rows_tells(self):
        for book, rows in some_books():
            n = book[1]
            for w, t in itertools.product(range(n + 1), repeat=2):
                numbers = numbers_met(n, rows, w, t)
                certificate = judge_blocks(book, w, t)
                self.assertTrue(is_right(t, numbers, certificate), (book, w, t, certificate))
                self.assertEqual(certificate[0] == "alike", len(set(numbers.values())) == 1)
                self.assert_is_bool(True, blocks_hold(book, w, t, certificate))
                for number in {0, 1, len(blocks(rows, w))} | set(numbers.values()):
                    thing = ("alike", number)
                    self.assert_is_bool(is_right(t, numbers, thing), blocks_hold(book, w, t, thing))

    def test_all_pairs_of_lots(self):
        for book, rows in random.Random("pairs").sample(some_books(), 30):
            n = book[1]
            if n > 6:
                continue
            for w, t in itertools.product(range(n + 1), range(n + 1)):
                numbers = numbers_met(n, rows, w, t)
                for one, other in itertools.product(lots(n, t)[:6], repeat=2):
                    thing = ("unlike", one, other)
                    self.assert_is_bool(is_right(t, numbers, thing), blocks_hold(book, w, t, thing))

    def test_changed_certificates_hold_just_if_they_are_right(self):
        chance = random.Random("mutants")
        words = []
        for book, rows in chance.sample(some_books(), 60):
            n = book[1]
            for _ in range(6):
                w, t = chance.randint(0, n), chance.randint(0, n)
                numbers = numbers_met(n, rows, w, t)
                certificate = judge_blocks(book, w, t)
                words.append(certificate[0])
                for thing in mutants(certificate):
                    self.assert_is_bool(is_right(t, numbers, thing), blocks_hold(book, w, t, thing))
        self.assertGreater(min(words.count("alike"), words.count("unlike")), 30)

    def test_any_value(self):
        things = ("alike", ("alike",), ("alike", None), ("alike", True), ("alike", "1"), ["alike", 1], ("alike", 1, 1),
                  ("unlike", (0, 1), (0, 2)), ("unlike", [0, 1], [0, 2]), ("unlike", (0, 2), (0, 1)), ("unlike", (1, 0), (0, 2)),
                  ("unlike", (0, 1)), ("unlike", (0, 1), None), ("unlike", (False, 1), (0, 2)), ("unlike", (0, 1), (0, 2), 0),
                  ("unlike", (0, 1), (0, 9)), ("unlike", (0,), (1,)), ("unlike", (0, 1), (0, 1)), ("unlike", (0, 1), (5, 6)))
        for book, w, t in ((SIX, 4, 2), (SIX, 4, 1), (SIX, 4, 0), (OCTAD, 4, 3), (PAIRS, 2, 2), (nought_book("two", 2), 1, 1)):
            numbers = numbers_met(book[1], rows_of(book), w, t)
            for thing in JUNK + things:
                with self.subTest(book=book, thing=thing):
                    self.assert_is_bool(is_right(t, numbers, thing), blocks_hold(book, w, t, thing))

    def test_alike_lots_of_fewer_places(self):
        for book, _ in some_books():
            for w in range(book[1] + 1):
                alike = [judge_blocks(book, w, t)[0] == "alike" for t in range(w + 1)]
                self.assertEqual(alike, sorted(alike, reverse=True))

    def test_how_often_by_the_number_of_blocks(self):
        for book, _ in some_books():
            n = book[1]
            for w, t in itertools.product(range(n + 1), repeat=2):
                word, number, *_ = judge_blocks(book, w, t)
                if word == "alike":
                    self.assertEqual(counts_of(book)[w] * math.comb(w, t), number * math.comb(n, t))

    def test_at_the_limits(self):
        begun = time.perf_counter()
        for book in (REED, beside(OCTAD, OCTAD), laid(("d16",)), book_of("two", 16, reference.some_rows(
                random.Random("limits"), "two", 16, 8))):
            for w in (0, 4, 6, 7, 8, 10, 12, 16):
                for t in range(6):
                    certificate = judge_blocks(book, w, t)
                    self.assert_is_bool(True, blocks_hold(book, w, t, certificate))
                    if certificate[0] == "alike" and t <= w:
                        self.assertEqual(len(triangle(book, w, t)), t + 1)
        self.assertLess(time.perf_counter() - begun, 10)
        self.assertEqual([judge_blocks(REED, 8, t)[:2] for t in (2, 3)], [("alike", 7), ("alike", 3)])
        self.assertEqual(judge_blocks(REED, 8, 4)[0], "unlike")
        self.assertEqual(judge_blocks(beside(OCTAD, OCTAD), 4, 1), ("alike", 7))


class Told(BookCase):
    def test_as_going_through_all_rows_tells(self):
        for book, rows in some_books():
            others = reference.partner_rows("two", book[1], rows)
            self.assertEqual(told_number(book), told_by_words(book[1], rows, others))

    def test_greater_books(self):
        for book in (OCTAD, REED, partner_of(REED), laid(("d16",)), beside(OCTAD, OCTAD), SEVEN, HAMMING) + tuple(
                book for book, _ in glued_books()[:6]):
            self.assertEqual(told_number(book), told_by_words(book[1], rows_of(book), rows_of(partner_of(book))))
        self.assertEqual([told_number(book) for book in (OCTAD, REED, HAMMING, SEVEN, PAIRS)], [3, 3, 2, 2, 1])
        for n in (1, 2, 16):
            self.assertEqual(told_number(book=nought_book("two", n)), 0)
            self.assertEqual(told_number(book_of("two", n, ((1,) * n,))), told_by_words(n, [(1,) * n], [
                row for row in reference.all_rows("two", n) if sum(row) % 2 == 0]))
        self.assertEqual(told_number(whole_book("two", 8)), 0)

    def test_what_the_counts_tell_is_true(self):
        told = 0
        for book, _ in some_books() + ((REED, None), (partner_of(HAMMING), None)):
            t = told_number(book)
            n = book[1]
            if t == 0 or n > 16:
                continue
            told += 1
            for w in range(n + 1):
                self.assertEqual(judge_blocks(book, w, t)[0], "alike")
                if w <= n - t:
                    self.assertEqual(judge_blocks(partner_of(book), w, t)[0], "alike")
        self.assertGreater(told, 10)


class Triangles(BookCase):
    def number_for(self, found, n, i, j):
        """The number of blocks that have all of i places and none of j others, the same for all such places."""
        numbers = set()
        for inside in itertools.combinations(range(n), i):
            for outside in itertools.combinations([place for place in range(n) if place not in inside], j):
                numbers.add(sum(set(inside) <= set(block) and not set(outside) & set(block) for block in found))
        self.assertEqual(len(numbers), 1)
        return numbers.pop()

    def test_as_going_through_all_places_tells(self):
        triangles = 0
        for book, rows in some_books():
            n = book[1]
            for w in range(n + 1):
                for t in range(min(w, 4) + 1):
                    if judge_blocks(book, w, t)[0] == "unlike":
                        continue
                    triangles += 1
                    found = blocks(rows, w)
                    due = tuple(tuple(self.number_for(found, n, m - j, j) for j in range(m + 1)) for m in range(t + 1))
                    self.assertTrue(same(triangle(book, w, t), due))
        self.assertGreater(triangles, 200)

    def test_each_number_is_the_sum_of_the_two_below(self):
        for book, w, t in ((OCTAD, 4, 3), (REED, 8, 3), (HAMMING, 3, 2), (HAMMING, 4, 2), (OCTAD, 8, 8), (OCTAD, 0, 0)):
            found = triangle(book, w, t)
            for above, below in zip(found, found[1:]):
                self.assertEqual(above, tuple(one + other for one, other in zip(below, below[1:])))
        self.assertEqual(triangle(t=2, w=4, book=OCTAD), ((14,), (7, 7), (3, 4, 3)))
        self.assertEqual(triangle(REED, 8, 3), ((30,), (15, 15), (7, 8, 7), (3, 4, 4, 3)))
        self.assertEqual(triangle(nought_book("two", 4), 3, 3), ((0,), (0, 0), (0, 0, 0), (0, 0, 0, 0)))


class Wrong(BookCase):
    THREE = ((judge_blocks, ()), (blocks_hold, (None,)), (blocks_hold, (("alike", 1),)), (triangle, ()))

    def check(self, error, borne, book, w, t):
        for function, more in self.THREE:
            self.assert_bears(error, borne, function, book, w, t, *more)
            named = {"thing": more[0]} if more else {}
            self.assert_bears(error, borne, function, **named, t=t, w=w, book=book)

    def check_book(self, error, book):
        self.check(error, book, book, 1, 1)
        self.check(error, book, book, None, ["t"])
        self.assert_bears(error, book, told_number, book)
        self.assert_bears(error, book, told_number, book=book)
        for w in (1, None, ["w"]):
            self.assert_bears(error, book, blocks_of, book, w)
            self.assert_bears(error, book, blocks_of, w=w, book=book)

    def test_bad_books(self):
        for book in JUNK:
            self.check_book(errors.BadBook, book)

    def test_other_kinds(self):
        for book in (TETRA, RING, HEXA, OCTA, nought_book("three", 1), whole_book("four", 2)):
            self.check_book(errors.OtherKind, book)

    def test_bad_numbers(self):
        for book in (SIX, OCTAD, nought_book("two", 1)):
            n = book[1]
            for number in NO_INTEGERS + (-1, n + 1, 17, 10 ** 99, -10 ** 99, True, False):
                self.assert_bears(errors.BadNumber, number, blocks_of, book, number)
                self.assert_bears(errors.BadNumber, number, blocks_of, w=number, book=book)
                self.check(errors.BadNumber, number, book, number, 1)
                self.check(errors.BadNumber, number, book, number, ["t"])
                self.check(errors.BadNumber, number, book, 1, number)

    def check_not_alike(self, book, w, t):
        numbers = numbers_met(book[1], rows_of(book), w, t)
        self.check_certificate(errors.NotAlike, triangle, book, lambda thing: thing[0] == "unlike" and is_right(
            t, numbers, thing), w, t)

    def test_triangles_of_more_places_than_blocks_have(self):
        for book in (SIX, OCTAD, PAIRS):
            for w, t in itertools.product(range(book[1] + 1), repeat=2):
                if t > w:
                    self.assert_bears(errors.BadNumber, t, triangle, book, w, t)
                    self.assert_bears(errors.BadNumber, t, triangle, t=t, w=w, book=book)
                    self.assertEqual(judge_blocks(book, w, t), ("alike", 0))

    def test_not_alike(self):
        found = 0
        for book, rows in some_books():
            n = book[1]
            for w in range(n + 1):
                for t in range(w + 1):
                    if len(set(numbers_met(n, rows, w, t).values())) > 1:
                        found += 1
                        self.check_not_alike(book, w, t)
        self.assertGreater(found, 200)


if __name__ == "__main__":
    unittest.main()
