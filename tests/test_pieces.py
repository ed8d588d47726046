import collections
import functools
import itertools
import math
import random
import time
import unittest

from ownpartners import errors
from ownpartners.books import book_of, how_many, is_book, nought_book, rows_of, whole_book
from ownpartners.changes import led
from ownpartners.combining import beside
from ownpartners.likeness import are_alike
from ownpartners.own import is_nought, is_own
from ownpartners.ownlikeness import likeness_number
from ownpartners.pieces import inner_book, is_one_piece, judge_loose, loose_holds, part_books, parts_of
from tests import reference
from tests.cases import BOOKS, HEXA, JUNK, PAIRS, RING, TETRA, BookCase, mutants, same
from tests.test_changes import random_change
from tests.test_likeness import SMALL
from tests.test_own import GOLAY, OCTA, OCTAD, is_right_row

BEFORE = (inner_book, judge_loose)


def all_lots(n):
    """All lots of n places: one place or more, and not all."""
    return [lot for many in range(1, n) for lot in itertools.combinations(range(n), many)]


def kept(row, lot):
    return tuple(mark if place in lot else 0 for place, mark in enumerate(row))


def is_loose(rows, lot):
    return all(kept(row, lot) in rows for row in rows)


def inner_rows(rows, lot):
    """The rows of the inner book of a lot, by the words of [9.1]."""
    return {tuple(row[place] for place in lot) for row in rows if kept(row, lot) == row}


def outer(n, lot):
    return tuple(place for place in range(n) if place not in lot)


def parts_by_lots(n, rows):
    """The parts, by the words of [9.2]: the loose lots within which no other one is loose."""
    loose = [lot for lot in all_lots(n) if is_loose(rows, lot)]
    if not loose:
        return (tuple(range(n)),)
    return tuple(sorted(lot for lot in loose if not any(set(other) < set(lot) for other in loose)))


def is_right_book(kind, n, rows, thing):
    """Whether any value is the book with these rows."""
    return is_book(thing) and thing[:2] == (kind, n) and set(rows_of(thing)) == rows


def is_right(book, rows, lot, thing):
    """Whether any value is a certificate, by the words of [9.1]."""
    kind, n, _ = book
    if type(thing) is not tuple or not thing or type(thing[0]) is not str:
        return False
    if thing[0] == "held" and len(thing) == 2:
        row = thing[1]
        return is_right_row(kind, n, row) and row in rows and kept(row, lot) not in rows
    if thing[0] != "loose" or len(thing) != 3 or not is_loose(rows, lot):
        return False
    others = outer(n, lot)
    return (is_right_book(kind, len(lot), inner_rows(rows, lot), thing[1])
            and is_right_book(kind, len(others), inner_rows(rows, others), thing[2]))


def pieced(kind, chance, most):
    """A book of several pieces, its places in any order."""
    book = None
    while book is None or book[1] < most and chance.random() < 0.8:
        n = chance.randint(1, max(1, min(3, most - (book[1] if book else 0))))
        piece = book_of(kind, n, reference.some_rows(chance, kind, n, chance.randint(0, 2)))
        book = piece if book is None else beside(book, piece)
    return led(book, random_change(chance, kind, book[1]))


@functools.lru_cache(maxsize=None)
def some_books():
    """Small books of all kinds, all or many, and some of several pieces, with their rows."""
    found = []
    for kind, n in SMALL:
        found.extend((book_of(kind, n, makers), set(made)) for makers, made in reference.closed_sets(kind, n))
    for kind, most in (("two", 7), ("three", 5), ("four", 4), ("ring", 4)):
        chance = random.Random("pieces " + kind)
        for _ in range(25):
            book = pieced(kind, chance, most)
            if how_many(book) <= 300:
                found.append((book, set(rows_of(book))))
    return found


class Parts(BookCase):
    def check_parts(self, book, due):
        found = parts_of(book)
        self.assertEqual(found, due)
        self.assert_is_bool(len(due) == 1, is_one_piece(book))
        pairs = part_books(book)
        self.assertEqual(tuple(part for part, _ in pairs), due)
        number = 1
        for part, one in pairs:
            self.assertEqual(one, book if len(due) == 1 else inner_book(book, part))
            number *= how_many(one)
        self.assertEqual(number, how_many(book))

    def test_as_going_through_all_lots_and_rows_tells(self):
        for book, rows in some_books():
            self.check_parts(book, parts_by_lots(book[1], rows))

    def test_parts_of_greater_books(self):
        self.check_parts(OCTAD, (tuple(range(8)),))
        self.check_parts(GOLAY, (tuple(range(12)),))
        self.check_parts(beside(OCTAD, OCTAD), (tuple(range(8)), tuple(range(8, 16))))
        self.check_parts(beside(OCTA, ("ring", 2, ((2, 0),))), (tuple(range(8)), (8,), (9,)))
        for kind in reference.KINDS:
            for n in (1, 2, 16):
                alone = tuple((place,) for place in range(n))
                self.check_parts(nought_book(kind, n), alone)
                self.check_parts(whole_book(kind, n), alone)
                self.check_parts(book_of(kind, n, ((1,) * n,)), (tuple(range(n)),))

    def test_a_led_book_has_the_parts_led(self):
        chance = random.Random("led parts")
        for book in (beside(OCTAD, OCTAD), beside(TETRA, GOLAY), beside(HEXA, HEXA), beside(beside(RING, RING), RING)):
            kind, n, _ = book
            change = random_change(chance, kind, n)
            due = tuple(sorted(tuple(sorted(change[0][place] for place in part)) for part in parts_of(book)))
            self.check_parts(led(book, change), due)

    def test_at_the_limits(self):
        begun = time.perf_counter()
        for kind, many in (("two", 12), ("three", 7), ("four", 6), ("ring", 6)):
            chance = random.Random("limits " + kind)
            for _ in range(10):
                book = book_of(kind, 16, reference.some_rows(chance, kind, 16, many))
                self.assertEqual(math.prod(how_many(one) for _, one in part_books(book)), how_many(book))
                lot = tuple(sorted(chance.sample(range(16), chance.randint(1, 15))))
                self.assertTrue(loose_holds(book, lot, judge_loose(book, lot)))
                for part, one in part_books(book):
                    if len(part) < 16:
                        self.assertEqual(judge_loose(book, part)[1], one)
        self.assertLess(time.perf_counter() - begun, 5)


class Told(BookCase):
    """What the parts tell, by [9.3]."""

    def test_meeting_in_nought_and_own_partners(self):
        for book, _ in some_books():
            self.assertEqual(is_nought(book), all(is_nought(one) for _, one in part_books(book)))
            self.assertEqual(is_own(book), all(is_own(one) for _, one in part_books(book)))

    def check_likeness(self, book):
        kinds = []
        number = 1
        for _, one in part_books(book):
            number *= likeness_number(one)
            for known in kinds:
                if known[0][1] == one[1] and are_alike(known[0], one):
                    known.append(one)
                    break
            else:
                kinds.append([one])
        number *= math.prod(math.factorial(len(known)) for known in kinds)
        self.assertEqual(likeness_number(book), number)

    def test_numbers_of_likenesses(self):
        for book, _ in some_books():
            self.check_likeness(book)
        for book in (beside(PAIRS, PAIRS), beside(TETRA, TETRA), beside(HEXA, ("four", 2, ((1, 2),))), beside(RING, RING)):
            self.check_likeness(book)

    def test_alike_books(self):
        chance = random.Random("paired")
        for kind in reference.KINDS:
            books = [pieced(kind, chance, 5) for _ in range(30)]
            books += [led(book, random_change(chance, kind, book[1])) for book in books[:10]]
            for one, other in itertools.combinations(books, 2):
                if one[1] != other[1]:
                    continue
                left = [book for _, book in part_books(other)]
                for _, book in part_books(one):
                    alike = [at for at, b in enumerate(left) if b[1] == book[1] and are_alike(book, b)]
                    if alike:
                        del left[alike[0]]
                due = not left and len(parts_of(one)) == len(parts_of(other))
                self.assertEqual(are_alike(one, other), due)


class Loose(BookCase):
    def test_as_going_through_all_rows_tells(self):
        for book, rows in some_books():
            kind, n, _ = book
            for lot in all_lots(n):
                inside = inner_book(book, lot)
                self.assertTrue(is_right_book(kind, len(lot), inner_rows(rows, lot), inside))
                certificate = judge_loose(book, lot)
                self.assertTrue(is_right(book, rows, lot, certificate), (book, lot, certificate))
                self.assertEqual(certificate[0], "loose" if is_loose(rows, lot) else "held")
                self.assert_is_bool(True, loose_holds(book, lot, certificate))
                product = how_many(inside) * how_many(inner_book(book, outer(n, lot)))
                self.assertEqual(product == how_many(book), is_loose(rows, lot))
                claimed = ("loose", inside, inner_book(book, outer(n, lot)))
                self.assert_is_bool(is_loose(rows, lot), loose_holds(book, lot, claimed))

    def test_loose_lots_are_made_of_whole_parts(self):
        for book, _ in some_books():
            parts = parts_of(book)
            for lot in all_lots(book[1]):
                due = all(set(part) <= set(lot) or not set(part) & set(lot) for part in parts)
                self.assertEqual(judge_loose(book, lot)[0] == "loose", due)

    def test_every_row_holds_just_if_it_is_right(self):
        for book, rows in random.Random("held").sample(some_books(), 60):
            kind, n, _ = book
            if reference.SIZES[kind] ** n > 300:
                continue
            for lot in all_lots(n):
                for row in reference.all_rows(kind, n):
                    self.assert_is_bool(is_right(book, rows, lot, ("held", row)), loose_holds(book, lot, ("held", row)))

    def test_changed_certificates_hold_just_if_they_are_right(self):
        chance = random.Random("mutants")
        words = collections.Counter()
        for book, rows in chance.sample(some_books(), 120):
            if book[1] == 1:
                continue
            lot = chance.choice([part for part in parts_of(book) if len(part) < book[1]] * 2 + all_lots(book[1]))
            certificate = judge_loose(book, lot)
            words[certificate[0]] += 1
            for thing in mutants(certificate):
                self.assert_is_bool(is_right(book, rows, lot, thing), loose_holds(book, lot, thing))
        self.assertGreater(min(words["loose"], words["held"]), 20)

    def test_certificates_of_other_lots(self):
        for book, rows in random.Random("others").sample(some_books(), 60):
            lots = all_lots(book[1])[:12]
            for lot, other in itertools.product(lots, repeat=2):
                thing = judge_loose(book, other)
                self.assert_is_bool(is_right(book, rows, lot, thing), loose_holds(book, lot, thing))

    def test_any_value(self):
        things = ("held", "loose", ("held",), ("loose",), ("held", None), ("held", [0, 0, 0, 0]), ("loose", None, None),
                  ("loose", PAIRS, PAIRS), ("held", PAIRS), ("held", (1, 1, 0, 0), 0), ["held", (1, 1, 0, 0)],
                  ("loose", ("two", 2, ((1, 1),)), ("two", 2, ((1, 1),)), None), ("held", (True, 1, 0, 0)),
                  ("loose", ("two", 2, ((True, 1),)), ("two", 2, ((1, 1),))), ("loose", ("two", 2, ((1, 1),))))
        for book in BOOKS:
            rows = set(rows_of(book))
            for lot in all_lots(book[1])[:4]:
                for thing in JUNK + things:
                    with self.subTest(book=book, thing=thing):
                        self.assert_is_bool(is_right(book, rows, lot, thing), loose_holds(book, lot, thing))

    def test_calls_by_name(self):
        self.assertEqual(parts_of(book=PAIRS), ((0, 1), (2, 3)))
        self.assertEqual(part_books(book=PAIRS)[0], ((0, 1), ("two", 2, ((1, 1),))))
        self.assert_is_bool(False, is_one_piece(book=PAIRS))
        self.assertEqual(inner_book(lot=(0, 1), book=PAIRS), ("two", 2, ((1, 1),)))
        self.assertEqual(judge_loose(lot=(0, 2), book=PAIRS)[0], "held")
        self.assertTrue(loose_holds(thing=("held", (1, 1, 0, 0)), lot=(0, 2), book=PAIRS))
        self.assertTrue(same(judge_loose(PAIRS, (0, 1)), ("loose", ("two", 2, ((1, 1),)), ("two", 2, ((1, 1),)))))


class Wrong(BookCase):
    def test_bad_books(self):
        for book in JUNK:
            for function in (parts_of, part_books, is_one_piece):
                self.assert_bears(errors.BadBook, book, function, book)
                self.assert_bears(errors.BadBook, book, function, book=book)
            for lot in (None, (0,), ["lot"]):
                for function in BEFORE:
                    self.assert_bears(errors.BadBook, book, function, book, lot)
                    self.assert_bears(errors.BadBook, book, function, lot=lot, book=book)
                self.assert_bears(errors.BadBook, book, loose_holds, book, lot, None)
                self.assert_bears(errors.BadBook, book, loose_holds, thing=["thing"], lot=lot, book=book)

    def check_lot(self, book, lot):
        for function in BEFORE:
            self.assert_bears(errors.BadPlaces, lot, function, book, lot)
            self.assert_bears(errors.BadPlaces, lot, function, lot=lot, book=book)
        for thing in (None, ("held", (0,)), ["thing"]):
            self.assert_bears(errors.BadPlaces, lot, loose_holds, book, lot, thing)
        self.assert_bears(errors.BadPlaces, lot, loose_holds, thing=None, lot=lot, book=book)

    def test_bad_lots(self):
        for lot in JUNK + ((), [0], (0, 1, 2, 3), (1, 0), (0, 0), (4,), (-1,), (0, 4), (True,), (False, 1), ("0",), (0, None),
                           {0: 1}, (0, 1, 2, 3, 4)):
            self.check_lot(PAIRS, lot)
        for kind in reference.KINDS:
            for n in (1, 2, 5, 16):
                for lot in ((), tuple(range(n)), (n,), tuple(range(1, n + 1))):
                    self.check_lot(nought_book(kind, n), lot)
        self.check_lot(nought_book("two", 1), (0,))


if __name__ == "__main__":
    unittest.main()
