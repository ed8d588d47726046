import functools
import itertools
import math
import random
import time
import unittest

from ownpartners import errors
from ownpartners.books import book_of, how_many, nought_book, rows_of, whole_book
from ownpartners.changes import led
from ownpartners.combining import beside, partner_of
from ownpartners.counts import counts_of
from ownpartners.growing import all_through
from ownpartners.likeness import are_alike
from ownpartners.ownlikeness import likeness_number
from ownpartners.pieces import part_books
from ownpartners.shortrows import glue_number, pairs_of, short_book, short_parts
from tests import reference
from tests.cases import HEXA, JUNK, PAIRS, RING, TETRA, BookCase, mutants, same
from tests.test_changes import random_change
from tests.test_own import OCTA, OCTAD, books_with_rows, is_right_nought
from tests.test_pieces import parts_by_lots

ALONE = (short_book, short_parts, glue_number)
SEVEN = ("two", 7, ((1, 0, 0, 1, 0, 1, 1), (0, 1, 0, 1, 1, 0, 1), (0, 0, 1, 0, 1, 1, 1)))


def paired_rows(n, pairs):
    """The rows with equal marks at the two places of each pair, and 1 at an even number of pairs."""
    found = set()
    for marks in itertools.product((0, 1), repeat=len(pairs)):
        if sum(marks) % 2 == 0:
            row = [0] * n
            for mark, pair in zip(marks, pairs):
                for place in pair:
                    row[place] = mark
            found.add(tuple(row))
    return found


def divisions(places):
    """All divisions of places into pairs."""
    if not places:
        yield ()
        return
    first, *rest = places
    for k, other in enumerate(rest):
        for pairs in divisions(rest[:k] + rest[k + 1:]):
            yield ((first, other),) + pairs


def piece_named(name):
    """A book that is one part of this name."""
    if name == "single":
        return nought_book("two", 1)
    if name[0] == "e":
        return SEVEN if name == "e7" else OCTAD
    n = int(name[1:])
    return book_of("two", n, tuple((0,) * k + (1,) * 4 + (0,) * (n - k - 4) for k in range(0, n - 2, 2)))


def laid(names):
    book = piece_named(names[0])
    for name in names[1:]:
        book = beside(book, piece_named(name))
    return book


def fitting_divisions(n, rows):
    return [pairs for pairs in divisions(range(n)) if paired_rows(n, pairs) == rows]


def name_by_words(n, rows):
    """The name of a part with these rows of its part book, by the words of [9.4]."""
    weights = sorted(map(reference.weight, rows))
    if n == 1 and weights == [0]:
        return "single"
    if n == 7 and weights == [0] + [4] * 7:
        return "e7"
    if n == 8 and weights == [0] + [4] * 14 + [8]:
        return "e8"
    if n >= 4 and n % 2 == 0 and fitting_divisions(n, rows):
        return f"d{n}"
    raise AssertionError((n, rows))


def is_short(book):
    counts = counts_of(book)
    return len(counts) < 3 or counts[2] == 0


@functools.lru_cache(maxsize=None)
def random_short_books(lengths, number, seed):
    """Books that meet in nought and have no row of the weight 2, with many rows of the weight 4."""
    chance = random.Random(seed)
    found = []
    while len(found) < number:
        n = chance.choice(lengths)
        book = nought_book("two", n)
        for _ in range(chance.randint(0, 30)):
            row = [0] * n
            for place in chance.sample(range(n), min(n, chance.choice((4, 4, 4, 6, 8)))):
                row[place] = 1
            row = tuple(row)
            if all(reference.meet("two", row, head) == 0 for head in book[2] + (row,)):
                wider = book_of("two", n, book[2] + (row,))
                book = wider if is_short(wider) else book
        found.append(book)
    return tuple(found)


@functools.lru_cache(maxsize=None)
def glued_books():
    """Longer books of told pieces, with glue and without, places in any order: pairs (book, names)."""
    chance = random.Random("glued")
    found = []
    for names in (("e8", "e8"), ("e7", "e7"), ("d16",), ("d14", "single"), ("d12", "d4"), ("d8", "d8"), ("d4",) * 4,
                  ("d6", "d10"), ("e7", "d8"), ("e7", "single"), ("d4", "d6", "single"), ("e8", "d4"), ("single",) * 5,
                  ("d10", "d4", "single", "single"), ("d6", "d6"), ("e8", "single", "e7")):
        book = laid(names)
        n = book[1]
        for _ in range(12):
            row = (0,) * n
            for head in partner_of(book)[2]:
                if chance.random() < 0.5:
                    row = reference.add_rows("two", row, head)
            wider = book_of("two", n, book[2] + (row,))
            if reference.weight(row) % 2 == 0 and counts_of(wider)[2] == 0 and counts_of(wider)[4] == counts_of(book)[4]:
                book = wider
        found.append((led(book, random_change(chance, "two", n)), tuple(sorted(names))))
    return tuple(found)


class Short(BookCase):
    def check_book(self, book):
        n = book[1]
        rows = rows_of(book)
        due = reference.closure("two", n, [row for row in rows if reference.weight(row) == 4])
        short = short_book(book)
        self.assertEqual((short[:2], set(rows_of(short))), (("two", n), due))
        self.assertEqual(glue_number(book) * len(due), len(rows))
        return due

    def check_names(self, book):
        """Of books of few places: the names as all divisions into pairs tell them."""
        n = book[1]
        short = self.check_book(book)
        found = short_parts(book)
        due = []
        for part in parts_by_lots(n, short):
            inside = {tuple(row[place] for place in part) for row in short
                      if all(row[place] == 0 for place in range(n) if place not in part)}
            due.append((name_by_words(len(part), inside), part))
            if due[-1][0][0] == "d" and due[-1][0] != "d4":
                pairs, = fitting_divisions(len(part), inside)
                self.assertEqual(pairs_of(book, part), tuple((part[a], part[b]) for a, b in pairs))
        self.assertEqual(found, tuple(sorted(due)))

    def test_as_all_divisions_and_rows_tell(self):
        for n in range(1, 8):
            for rows in reference.nought_sets("two", n)[:400]:
                book = ("two", n, reference.basis_of("two", n, rows))
                if is_short(book):
                    self.check_names(book)

    def test_random_books(self):
        for book in random_short_books((6, 7, 8, 9), 60, "few places"):
            self.check_names(book)
        for book in random_short_books((10,), 12, "ten"):
            self.check_names(book)

    def test_every_name(self):
        for name in ("single", "d4", "d6", "d8", "d10", "d12", "d14", "d16", "e7", "e8"):
            book = piece_named(name)
            self.assertEqual(short_parts(book), ((name, tuple(range(book[1]))),))
            self.assertEqual(short_book(book), book)
            self.assertEqual(glue_number(book), 1)
            m = book[1] // 2
            fours = {"single": 0, "e7": 7, "e8": 14}.get(name, m * (m - 1) // 2)
            self.assertEqual((counts_of(book) + (0,) * 4)[4], fours)
            likenesses = {"single": 1, "d4": 24, "e7": 168, "e8": 1344}.get(name, 2 ** m * math.factorial(m))
            if book[1] <= 8:
                self.assertEqual(likeness_number(book), likenesses)
            if name[0] == "d" and name != "d4":
                self.assertEqual(pairs_of(book, tuple(range(2 * m))), tuple((k, k + 1) for k in range(0, 2 * m, 2)))

    def test_longer_books_of_told_pieces(self):
        for book, names in glued_books():
            self.check_book(book)
            found = short_parts(book)
            self.assertEqual(tuple(name for name, _ in found), names)
            self.assertEqual(sorted(place for _, part in found for place in part), list(range(book[1])))
            rows = rows_of(short_book(book))
            for name, part in found:
                if name[0] == "d" and name != "d4":
                    pairs = pairs_of(book, part)
                    self.assertEqual(sorted(place for pair in pairs for place in pair), list(part))
                    self.assertEqual(pairs, tuple(sorted(pairs)))
                    inside = {tuple(mark if place in part else 0 for place, mark in enumerate(row)) for row in rows}
                    self.assertEqual(paired_rows(book[1], pairs), inside)

    def test_parts_of_one_name_are_alike(self):
        known = {}
        for book in random_short_books((6, 7, 8), 40, "alike") + tuple(book for book, _ in glued_books()):
            for (part, one), (name, places) in zip(part_books(short_book(book)), sorted(short_parts(book), key=lambda p: p[1])):
                self.assertEqual(part, places)
                if len(part) <= 8:
                    self.assertTrue(are_alike(known.setdefault(name, one), one))
        self.assertEqual(set(known), {"single", "d4", "d6", "d8", "e7", "e8"})

    def test_own_partners_of_16_places(self):
        names = set()
        for base in (laid(("e8", "e8")), laid(("d16",)), laid(("e7", "e7", "single", "single")), laid(("d8", "d8")),
                     laid(("d12", "d4")), laid(("d6", "d10"))):
            for book in all_through(base, most=2000):
                if is_short(book):
                    self.check_book(book)
                    names.add(tuple(name for name, _ in short_parts(book)))
        # The own partners without rows of the weight 2.
        self.assertLessEqual({("e8", "e8"), ("d16",), ("d8", "d8")}, names)

    def test_glue_numbers_by_going_through_all_rows(self):
        books = random_short_books((6, 7, 8, 9), 30, "glue") + tuple(book for book, _ in glued_books())
        more = set()
        for book in books:
            rows, short = rows_of(book), set(rows_of(short_book(book)))
            classes = []
            for row in rows:
                if not any(reference.add_rows("two", row, one) in short for one in classes):
                    classes.append(row)
            self.assertEqual(glue_number(book), len(classes))
            more.add(len(classes))
        self.assertGreater(len(more), 2)

    def test_at_the_limits(self):
        begun = time.perf_counter()
        for book, _ in glued_books():
            self.assertLessEqual(how_many(book), 256)
            for function in ALONE:
                function(book=book)
            for name, part in short_parts(book):
                if name[0] == "d" and name != "d4":
                    pairs_of(part=part, book=book)
        self.assertLess(time.perf_counter() - begun, 5)


class Wrong(BookCase):
    def check(self, error, borne, book):
        for function in ALONE:
            self.assert_bears(error, borne, function, book)
            self.assert_bears(error, borne, function, book=book)
        for part in (None, (0, 1, 2, 3, 4, 5), ["part"]):
            self.assert_bears(error, borne, pairs_of, book, part)
            self.assert_bears(error, borne, pairs_of, part=part, book=book)

    def check_borne(self, error, book, is_right):
        """The call raises just this error, and what it bears is right."""
        for function, arguments in [(function, ()) for function in ALONE] + [(pairs_of, (None,)), (pairs_of, ((0, 1),))]:
            with self.assertRaises(errors.BookError) as caught:
                function(book, *arguments)
            self.assertIs(type(caught.exception), error)
            borne, = vars(caught.exception).values()
            self.assertTrue(is_right(borne), borne)

    def test_bad_books(self):
        for book in JUNK:
            self.check(errors.BadBook, book, book)

    def test_other_kinds(self):
        for book in (TETRA, RING, HEXA, OCTA, nought_book("three", 2), whole_book("four", 1), ("ring", 1, ((1,),))):
            self.check(errors.OtherKind, book, book)

    def test_not_nought(self):
        for n in (1, 2, 3, 4):
            for book, rows in books_with_rows("two", n):
                if reference.unmet("two", rows):
                    def is_right(thing):
                        return is_right_nought("two", n, rows, thing) and thing[0] == "meet"
                    # Also where a row has the weight 2.
                    self.check_borne(errors.NotNought, book, is_right)
                    for function in ALONE:
                        self.check_certificate(errors.NotNought, function, book, is_right)
                    self.check_certificate(errors.NotNought, pairs_of, book, is_right, None)

    def test_has_two(self):
        books = [("two", n, reference.basis_of("two", n, rows)) for n in (2, 3, 4, 5, 6)
                 for rows in reference.nought_sets("two", n)[:120]]
        books += [beside(("two", 2, ((1, 1),)), OCTAD), beside(PAIRS, OCTAD)]
        found = 0
        for book in books:
            if not is_short(book):
                found += 1
                rows = rows_of(book)
                self.check_borne(errors.HasTwo, book, lambda row: any(same(row, one) for one in rows) and sum(row) == 2)
        self.assertGreater(found, 50)

    def check_part(self, book, part):
        self.assert_bears(errors.BadPlaces, part, pairs_of, book, part)
        self.assert_bears(errors.BadPlaces, part, pairs_of, part=part, book=book)

    def test_bad_parts(self):
        for book, _ in glued_books():
            right = [part for name, part in short_parts(book) if name[0] == "d" and name != "d4"]
            for _, part in short_parts(book):
                for thing in itertools.chain((part,), mutants(part)):
                    if not any(same(thing, one) for one in right):
                        self.check_part(book, thing)
                    else:
                        self.assertEqual(sum(map(len, pairs_of(book, thing))), len(thing))
        six = piece_named("d6")
        for thing in JUNK + (0, [0, 1, 2, 3, 4, 5], (False, True, 2, 3, 4, 5), (0, 1, 2, 3, 4), (1, 0, 2, 3, 4, 5), (),
                             (0, 1, 2, 3, 4, 5, 6), (0, 1, 2, 3, 4, 5, 5), ("d6", (0, 1, 2, 3, 4, 5)), (0, 1)):
            self.check_part(six, thing)
        self.check_part(piece_named("d4"), (0, 1, 2, 3))
        self.check_part(SEVEN, tuple(range(7)))
        self.check_part(OCTAD, tuple(range(8)))
        self.check_part(nought_book("two", 3), (0,))


if __name__ == "__main__":
    unittest.main()
