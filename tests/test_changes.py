import functools
import itertools
import random
import unittest

from ownpartners import errors
from ownpartners.books import book_of, is_book, nought_book, rows_of, whole_book
from ownpartners.changes import both_changes, change_undone, changes_number, is_change, led, led_row
from ownpartners.combining import partner_of
from ownpartners.counts import counts_of
from tests import reference
from tests.cases import JUNK, NO_INTEGERS, BookCase, mutants

SMALL = (("two", 1), ("two", 2), ("two", 3), ("three", 1), ("three", 2), ("four", 1), ("four", 2), ("ring", 1),
         ("ring", 2))


@functools.lru_cache(maxsize=None)
def identity(n):
    return (tuple(range(n)), (1,) * n)


def random_change(chance, kind, n):
    return (tuple(chance.sample(range(n), n)), tuple(chance.choice(reference.UNITS[kind]) for _ in range(n)))


class Changes(BookCase):
    def test_is_change_for_all_small_ones(self):
        for kind, n in SMALL + (("three", 3), ("four", 3), ("ring", 3)):
            changes = reference.all_changes(kind, n)
            self.assertEqual(len(set(changes)), changes_number(kind, n))
            for change in changes:
                self.assert_is_bool(True, is_change(kind, n, change))
                self.assertFalse(is_change(kind, n + 1, change))

    def test_is_change_for_pairs_that_are_none(self):
        for kind in reference.KINDS:
            marks = range(-1, reference.SIZES[kind] + 1)
            for places in itertools.product(range(-1, 3), repeat=2):
                for factors in itertools.product(marks, repeat=2):
                    due = sorted(places) == [0, 1] and all(f in reference.UNITS[kind] for f in factors)
                    self.assert_is_bool(due, is_change(kind, 2, (places, factors)))
        self.assertFalse(is_change("ring", 1, ((0,), (2,))))

    def test_is_change_for_changes_that_are_changed_in_one_place(self):
        for kind in reference.KINDS:
            for change in (identity(1), identity(3), ((2, 0, 1), (reference.UNITS[kind][-1],) * 3)):
                n = len(change[0])
                self.assertTrue(is_change(kind, n, change))
                for thing in mutants(change):
                    self.assert_is_bool(reference.is_right_change(kind, n, thing), is_change(kind, n, thing))

    def test_is_change_for_any_value(self):
        for kind in reference.KINDS:
            for n in (1, 2, 16):
                for thing in JUNK:
                    self.assert_is_bool(False, is_change(kind, n, thing))
        self.assert_is_bool(False, is_change("two", 2, ((False, True), (1, 1))))
        self.assert_is_bool(False, is_change("two", 2, ((0, 1), (1, True))))
        self.assert_is_bool(False, is_change("two", 2, [(0, 1), (1, 1)]))
        self.assert_is_bool(False, is_change("two", 2, ([0, 1], (1, 1))))
        self.assert_is_bool(True, is_change(thing=((1, 0), (1, 3)), n=2, kind="ring"))

    def test_changes_number(self):
        for kind in reference.KINDS:
            due = 1
            for n in range(1, 17):
                due *= n * len(reference.UNITS[kind])
                self.assertEqual(changes_number(kind, n), due)
        self.assertEqual(changes_number(n=4, kind="three"), 384)
        self.assertEqual(changes_number("two", 16), 20922789888000)

    def test_rows_are_led_as_going_through_all_changes_tells(self):
        for kind, n in SMALL:
            for change in reference.all_changes(kind, n):
                for row in reference.all_rows(kind, n):
                    self.assertEqual(led_row(kind, change, row), reference.lead(kind, change, row))

    def test_marks_go_to_their_places_with_their_own_factors(self):
        self.assertEqual(led_row("four", ((2, 0, 1), (1, 2, 3)), (1, 1, 1)), (2, 3, 1))
        self.assertEqual(led_row(row=(0, 1, 2), change=((1, 2, 0), (3, 3, 1)), kind="ring"), (2, 0, 3))

    def test_any_two_changes_are_one(self):
        for kind, n in SMALL + (("three", 3),):
            changes = reference.all_changes(kind, n)
            rows = reference.all_rows(kind, n)
            for first, second in itertools.product(changes, repeat=2):
                both = both_changes(kind, first, second)
                self.assertTrue(is_change(kind, n, both))
                for row in rows[1:]:
                    due = reference.lead(kind, second, reference.lead(kind, first, row))
                    self.assertEqual(reference.lead(kind, both, row), due)

    def test_changes_are_undone(self):
        for kind, n in SMALL + (("four", 3), ("ring", 3)):
            for change in reference.all_changes(kind, n):
                undone = change_undone(kind, change)
                self.assertTrue(is_change(kind, n, undone))
                self.assertEqual(both_changes(kind, change, undone), identity(n))
                self.assertEqual(both_changes(kind, undone, change), identity(n))
                self.assertEqual(change_undone(kind, undone), change)

    def test_changes_up_to_16_places(self):
        for kind in reference.KINDS:
            chance = random.Random("changes " + kind)
            for _ in range(80):
                n = chance.randint(1, 16)
                first, second = random_change(chance, kind, n), random_change(chance, kind, n)
                row, = reference.some_rows(chance, kind, n, 1)
                both = both_changes(second=second, first=first, kind=kind)
                self.assertEqual(led_row(kind, both, row), led_row(kind, second, led_row(kind, first, row)))
                self.assertEqual(led_row(kind, change_undone(change=first, kind=kind), led_row(kind, first, row)), row)


class LedBooks(BookCase):
    def test_books_are_led_as_their_rows_are(self):
        for kind, n in SMALL + (("two", 4), ("three", 3)):
            for makers, made in reference.closed_sets(kind, n):
                book = book_of(kind, n, makers)
                for change in reference.all_changes(kind, n):
                    other = led(book, change)
                    self.assertTrue(is_book(other))
                    self.assertEqual(rows_of(other), tuple(sorted(reference.lead_all(kind, change, made))))

    def test_counts_and_partners_of_led_books(self):
        for kind in reference.KINDS:
            chance = random.Random("led " + kind)
            for _ in range(40):
                n = chance.randint(1, 16)
                book = book_of(kind, n, reference.some_rows(chance, kind, n, chance.randint(0, 4)))
                change = random_change(chance, kind, n)
                other = led(change=change, book=book)
                self.assertTrue(is_book(other))
                self.assertEqual(counts_of(other), counts_of(book))
                self.assertEqual(partner_of(other), led(partner_of(book), change))
                self.assertEqual(led(other, change_undone(kind, change)), book)

    def test_books_with_any_number_of_rows_are_led(self):
        for kind in reference.KINDS:
            change = random_change(random.Random(kind), kind, 16)
            self.assertEqual(led(whole_book(kind, 16), change), whole_book(kind, 16))
            self.assertEqual(led(nought_book(kind, 16), change), nought_book(kind, 16))


class Wrong(BookCase):
    def test_bad_kinds_come_first(self):
        for kind in JUNK:
            if kind == "two":
                continue
            self.assert_bears(errors.BadKind, kind, is_change, kind, None, None)
            self.assert_bears(errors.BadKind, kind, changes_number, kind, None)
            self.assert_bears(errors.BadKind, kind, both_changes, kind, None, None)
            self.assert_bears(errors.BadKind, kind, change_undone, kind, None)
            self.assert_bears(errors.BadKind, kind, led_row, kind, None, None)

    def test_bad_lengths(self):
        for n in NO_INTEGERS + (0, -1, 17, 10 ** 99, True, False):
            self.assert_bears(errors.BadLength, n, is_change, "three", n, ((0,), (1,)))
            self.assert_bears(errors.BadLength, n, changes_number, n=n, kind="four")

    def test_bad_changes(self):
        good = ((1, 0), (1, 1))
        for kind in reference.KINDS:
            for thing in JUNK + (((), ()), ((0,) * 2, (1,) * 2), (tuple(range(17)), (1,) * 17), ((0,), (0,)), ((0,), ()),
                                 ((0, 1), (1,)), ([0], [1]), ((0,), (True,)), ((False,), (1,)), (0, 1), ((1,), (1,))):
                with self.subTest(kind=kind, thing=thing):
                    self.assert_bears(errors.BadChange, thing, change_undone, kind, thing)
                    self.assert_bears(errors.BadChange, thing, both_changes, kind, thing, good)
                    self.assert_bears(errors.BadChange, thing, both_changes, kind, good, thing)
                    self.assert_bears(errors.BadChange, thing, led_row, kind, thing, (1, 0))
                    self.assert_bears(errors.BadChange, thing, led, (kind, 2, ()), thing)
        self.assert_bears(errors.BadChange, ((0,), (2,)), change_undone, "ring", ((0,), (2,)))
        self.assert_bears(errors.BadChange, ((0,), (2,)), change_undone, "two", ((0,), (2,)))

    def test_changed_changes(self):
        change = ((1, 2, 0), (2, 1, 2))
        for thing in mutants(change):
            if reference.is_right_change("three", 3, thing):
                self.assertEqual(both_changes("three", change_undone("three", thing), thing), identity(3))
                continue
            self.assert_bears(errors.BadChange, thing, led_row, "three", thing, (0, 1, 2))
            if not reference.is_right_change("three", 2, thing):
                self.assert_bears(errors.BadChange, thing, change_undone, "three", thing)

    def test_the_first_bad_change_is_borne(self):
        self.assert_bears(errors.BadChange, "first", both_changes, "two", "first", "second")
        self.assert_bears(errors.BadChange, "first", both_changes, second="second", first="first", kind="two")
        self.assert_bears(errors.BadChange, "second", both_changes, "two", identity(3), "second")

    def test_second_changes_of_another_length(self):
        for kind in reference.KINDS:
            self.assert_bears(errors.BadChange, identity(2), both_changes, kind, identity(3), identity(2))
            self.assert_bears(errors.BadChange, identity(16), both_changes, kind, identity(1), identity(16))

    def test_rows_come_ahead_of_changes(self):
        for row in JUNK + ((), (0,) * 17, (0, 4), (True,), [0]):
            self.assert_bears(errors.BadRow, row, led_row, "ring", None, row)
            self.assert_bears(errors.BadRow, row, led_row, row=row, change=identity(2), kind="ring")
        self.assert_bears(errors.BadChange, identity(2), led_row, "ring", identity(2), (0, 1, 2))

    def test_books_come_ahead_of_changes(self):
        for book in JUNK:
            self.assert_bears(errors.BadBook, book, led, book, None)
            self.assert_bears(errors.BadBook, book, led, change=identity(2), book=book)
        for n in (1, 3):
            self.assert_bears(errors.BadChange, identity(n), led, ("two", 2, ()), identity(n))
        self.assert_bears(errors.BadChange, ((0, 1), (1, 2)), led, ("two", 2, ()), ((0, 1), (1, 2)))


if __name__ == "__main__":
    unittest.main()
