import functools
import itertools
import random
import time
import unittest

from ownpartners import errors
from ownpartners.books import book_of, nought_book, rows_of, whole_book
from ownpartners.changes import led
from ownpartners.likeness import alike_holds, are_alike, judge_alike
from tests import reference
from tests.cases import HEXA, JUNK, PAIRS, RING, TETRA, BookCase, mutants, same
from tests.test_changes import random_change

SMALL = (("two", 1), ("two", 2), ("two", 3), ("two", 4), ("three", 1), ("three", 2), ("three", 3), ("four", 1),
         ("four", 2), ("four", 3), ("ring", 1), ("ring", 2), ("ring", 3))

# Pairs of unlike books of 8 places with equal counts.
UNLIKE = (
    (("two", 8, ((1, 0, 0, 1, 0, 1, 0, 0), (0, 1, 0, 1, 0, 1, 0, 0), (0, 0, 1, 1, 0, 1, 0, 1), (0, 0, 0, 0, 1, 0, 1, 0))),
     ("two", 8, ((1, 0, 0, 0, 0, 1, 1, 0), (0, 1, 0, 0, 1, 1, 1, 1), (0, 0, 1, 0, 0, 0, 1, 0), (0, 0, 0, 1, 0, 1, 0, 0)))),
    (("three", 8, ((1, 0, 0, 0, 0, 0, 0, 0), (0, 1, 0, 0, 0, 2, 2, 1), (0, 0, 1, 0, 0, 1, 0, 2),
                   (0, 0, 0, 1, 0, 1, 1, 0), (0, 0, 0, 0, 1, 1, 1, 0))),
     ("three", 8, ((1, 0, 0, 0, 1, 2, 2, 0), (0, 1, 0, 0, 1, 1, 2, 0), (0, 0, 1, 0, 1, 0, 2, 0),
                   (0, 0, 0, 1, 0, 0, 1, 0), (0, 0, 0, 0, 0, 0, 0, 1)))),
    (("four", 8, ((1, 1, 0, 0, 0, 0, 0, 0), (0, 0, 1, 0, 0, 3, 1, 3), (0, 0, 0, 1, 0, 3, 3, 1),
                  (0, 0, 0, 0, 1, 3, 2, 0))),
     ("four", 8, ((1, 0, 0, 0, 3, 0, 0, 0), (0, 1, 0, 0, 0, 1, 2, 3), (0, 0, 1, 0, 0, 2, 3, 2),
                  (0, 0, 0, 1, 0, 1, 3, 0)))),
    (("ring", 8, ((2, 0, 0, 0, 0, 0, 0, 0), (0, 0, 0, 2, 0, 0, 0, 0), (0, 0, 0, 0, 1, 0, 0, 0),
                  (0, 0, 0, 0, 0, 1, 0, 0), (0, 0, 0, 0, 0, 0, 1, 1))),
     ("ring", 8, ((1, 0, 0, 0, 0, 0, 0, 0), (0, 0, 0, 2, 0, 0, 0, 0), (0, 0, 0, 0, 1, 1, 0, 1),
                  (0, 0, 0, 0, 0, 2, 0, 0), (0, 0, 0, 0, 0, 0, 2, 0), (0, 0, 0, 0, 0, 0, 0, 2)))),
)

# Smaller ones, whose trees have branches of several depths.
DEEP = (
    (("two", 6, ((1, 0, 0, 1, 1, 1), (0, 1, 0, 0, 1, 0), (0, 0, 1, 0, 1, 0))),
     ("two", 6, ((1, 1, 0, 0, 0, 0), (0, 0, 1, 0, 0, 1), (0, 0, 0, 1, 1, 0)))),
    (("two", 7, ((1, 0, 0, 0, 1, 1, 0), (0, 1, 0, 1, 1, 1, 0), (0, 0, 1, 0, 0, 0, 1))),
     ("two", 7, ((1, 0, 1, 0, 0, 1, 0), (0, 1, 1, 0, 1, 1, 1), (0, 0, 0, 1, 0, 1, 0)))),
    (("ring", 3, ((1, 3, 0),)), ("ring", 3, ((2, 0, 2), (0, 2, 2)))),
    (("ring", 4, ((1, 0, 0, 2), (0, 1, 0, 0), (0, 0, 1, 1))),
     ("ring", 4, ((1, 0, 1, 0), (0, 1, 1, 1), (0, 0, 2, 0), (0, 0, 0, 2)))),
    (("ring", 5, ((2, 0, 0, 0, 2), (0, 1, 0, 0, 2), (0, 0, 1, 1, 3), (0, 0, 0, 2, 2))),
     ("ring", 5, ((1, 0, 0, 0, 1), (0, 1, 1, 0, 1), (0, 0, 0, 2, 1), (0, 0, 0, 0, 2)))),
)


@functools.lru_cache(maxsize=None)
def tree_of_books(one, other):
    return reference.tree(one[0], one[1], rows_of(one), rows_of(other))


def is_right(one, other, thing):
    """Whether any value is a certificate, by the words of [4.4]."""
    if type(thing) is not tuple or len(thing) != 2 or type(thing[0]) is not str:
        return False
    if thing[0] == "change":
        if not reference.is_right_change(one[0], one[1], thing[1]):
            return False
        return reference.lead_all(one[0], thing[1], rows_of(one)) == frozenset(rows_of(other))
    due = tree_of_books(one, other)
    return thing[0] == "cases" and due is not None and same(thing[1], due)


class Alike(BookCase):
    def check_pair(self, one, other, due):
        self.assert_is_bool(due, are_alike(one, other))
        certificate = judge_alike(one, other)
        self.assertEqual(certificate[0], "change" if due else "cases")
        self.assertTrue(is_right(one, other, certificate), (one, other, certificate))
        self.assert_is_bool(True, alike_holds(one, other, certificate))
        self.assert_is_bool(False, alike_holds(one, other, ("cases" if due else "change", certificate[1])))

    def test_as_going_through_all_changes_tells(self):
        for kind, n in SMALL:
            sets = [(book_of(kind, n, makers), frozenset(made)) for makers, made in reference.closed_sets(kind, n)]
            for one, made in sets:
                images = {reference.lead_all(kind, change, made) for change in reference.all_changes(kind, n)}
                for other, others in sets:
                    self.check_pair(one, other, others in images)

    def test_four_places_of_three_and_ring(self):
        for kind in ("three", "ring"):
            chance = random.Random("alike " + kind)
            books = [book_of(kind, 4, reference.some_rows(chance, kind, 4, chance.randint(1, 2))) for _ in range(12)]
            for one in books:
                changes = reference.all_changes(kind, 4)
                images = {reference.lead_all(kind, change, rows_of(one)) for change in changes}
                for other in books:
                    self.check_pair(one, other, frozenset(rows_of(other)) in images)

    def test_every_change_holds_just_if_it_leads_the_one_to_the_other(self):
        for kind, n in SMALL[:-1]:
            chance = random.Random("holds " + kind)
            sets = reference.closed_sets(kind, n)
            for _ in range(12):
                (makers, made), (twins, others) = chance.choice(sets), chance.choice(sets)
                one, other = book_of(kind, n, makers), book_of(kind, n, twins)
                if chance.random() < 0.5:
                    other = led(one, chance.choice(reference.all_changes(kind, n)))
                for change in reference.all_changes(kind, n):
                    due = reference.lead_all(kind, change, rows_of(one)) == frozenset(rows_of(other))
                    self.assert_is_bool(due, alike_holds(one, other, ("change", change)))

    def test_led_books_are_alike_up_to_8_places_and_256_rows(self):
        for kind, most in (("two", 8), ("three", 5), ("four", 4), ("ring", 4)):
            chance = random.Random("led alike " + kind)
            for _ in range(25):
                n = chance.randint(5, 8)
                one = book_of(kind, n, reference.some_rows(chance, kind, n, chance.randint(0, most)))
                other = led(one, random_change(chance, kind, n))
                self.assertTrue(are_alike(one, other))
                word, change = judge_alike(one, other)
                self.assertEqual(word, "change")
                self.assertEqual(led(one, change), other)
                self.assertTrue(alike_holds(one, other, (word, change)))

    def test_books_with_as_many_likenesses_as_can_be(self):
        for kind in reference.KINDS:
            for book in (nought_book(kind, 8), book_of(kind, 8, ((1,) * 8,)), whole_book(kind, 4)):
                self.assertTrue(are_alike(book, book))
                self.assertTrue(alike_holds(book, book, judge_alike(book, book)))
        self.assertTrue(are_alike(whole_book("two", 8), whole_book("two", 8)))

    def test_unlike_books_at_the_limits(self):
        for one, other in UNLIKE:
            for first, second in ((one, other), (other, one)):
                begun = time.perf_counter()
                self.assertFalse(are_alike(first, second))
                certificate = judge_alike(first, second)
                self.assertTrue(alike_holds(first, second, certificate))
                self.assertLess(time.perf_counter() - begun, 5)
                self.assertLessEqual(reference.words(certificate[1]), 2000)
                self.assertTrue(is_right(first, second, certificate))
        self.assertGreater(reference.words(judge_alike(*UNLIKE[2])[1]), 1500)

    def test_whole_trees(self):
        self.assertEqual(judge_alike(("two", 2, ((1, 1),)), ("two", 2, ((1, 0),))), ("cases", "clash"))
        self.assertEqual(judge_alike(*DEEP[0]), ("cases", ("clash",) * 6))
        self.assertEqual(judge_alike(*DEEP[2]), ("cases", ("clash",) * 6))
        self.assertEqual(judge_alike(*DEEP[1]), ("cases", tree_of_books(*DEEP[1])))
        self.assertIn(("clash",) * 6, judge_alike(*DEEP[1])[1])

    def test_factors_are_of_the_marks_of_the_first_book(self):
        one, other = ("ring", 2, ((1, 1),)), ("ring", 2, ((1, 3),))
        self.assertTrue(alike_holds(one, other, ("change", ((0, 1), (1, 3)))))
        self.assertFalse(alike_holds(one, other, ("change", ((0, 1), (1, 1)))))
        one, other = ("four", 3, ((1, 2, 1),)), ("four", 3, ((1, 1, 1),))
        self.assertTrue(alike_holds(one, other, ("change", ((0, 1, 2), (1, 3, 1)))))
        self.assertFalse(alike_holds(one, other, ("change", ((0, 1, 2), (1, 2, 1)))))


class Holds(BookCase):
    def test_changed_certificates_hold_just_if_they_are_right(self):
        pairs = list(DEEP) + [(TETRA, led(TETRA, ((2, 0, 1, 3), (1, 2, 2, 1)))), (RING, RING), (PAIRS, PAIRS)]
        deep = 0
        for one, other in pairs:
            certificate = judge_alike(one, other)
            deep += certificate[0] == "cases" and certificate[1] != "clash"
            for thing in mutants(certificate):
                self.assert_is_bool(is_right(one, other, thing), alike_holds(one, other, thing))
        self.assertEqual(deep, len(DEEP))

    def test_changed_trees_at_the_limits(self):
        for one, other in UNLIKE:
            certificate = judge_alike(one, other)
            chance = random.Random(str(one))
            things = [thing for thing in itertools.islice(mutants(certificate), 6000) if chance.random() < 0.02]
            for thing in things:
                self.assert_is_bool(is_right(one, other, thing), alike_holds(one, other, thing))

    def test_trees_of_other_pairs_do_not_hold(self):
        for one, other in itertools.chain(DEEP, UNLIKE[:2]):
            certificate = judge_alike(one, other)
            self.assert_is_bool(False, alike_holds(one, one, certificate))
            self.assert_is_bool(False, alike_holds(other, other, certificate))
            due = is_right(other, one, certificate)
            self.assert_is_bool(due, alike_holds(other, one, certificate))

    def test_any_value(self):
        for thing in JUNK + (("change",), ("cases",), ("cases", "clash", "clash"), ("cases", "cases"), ("clash",), "clash",
                             ("change", None), (None, "clash"), ("cases", ("clash",) * 4), ["cases", "clash"],
                             ("cases", ["clash"] * 4), (["cases"], "clash"), ("change", "clash"), ("cases", ())):
            for one, other in ((PAIRS, PAIRS), (TETRA, TETRA), (RING, RING), (HEXA, HEXA), DEEP[2]):
                with self.subTest(thing=thing):
                    self.assert_is_bool(is_right(one, other, thing), alike_holds(one, other, thing))

    def test_calls_by_name(self):
        one, other = ("two", 3, ((1, 1, 0),)), ("two", 3, ((0, 1, 1),))
        self.assertTrue(are_alike(other=other, one=one))
        certificate = judge_alike(other=other, one=one)
        self.assertEqual(led(one, certificate[1]), other)
        self.assertTrue(alike_holds(thing=certificate, other=other, one=one))


class Wrong(BookCase):
    def check_error(self, error, borne, one, other):
        for function in (are_alike, judge_alike):
            self.assert_bears(error, borne, function, one, other)
            self.assert_bears(error, borne, function, other=other, one=one)
        for thing in (None, ("cases", "clash"), ["thing"]):
            self.assert_bears(error, borne, alike_holds, one, other, thing)
            self.assert_bears(error, borne, alike_holds, thing=thing, other=other, one=one)

    def test_bad_books(self):
        for book in JUNK:
            self.check_error(errors.BadBook, book, book, TETRA)
            self.check_error(errors.BadBook, book, TETRA, book)
        first, second = ["first"], ["second"]
        self.check_error(errors.BadBook, first, first, second)

    def test_other_kinds(self):
        for one, other in itertools.permutations((TETRA, RING, PAIRS, HEXA), 2):
            self.check_error(errors.OtherKind, other, one, other)

    def check_lengths(self, one, other):
        self.check_error(errors.OtherLength, other, one, other)

    def test_other_lengths(self):
        for kind in reference.KINDS:
            self.check_lengths(nought_book(kind, 3), nought_book(kind, 2))
            self.check_lengths(nought_book(kind, 1), whole_book(kind, 2))


if __name__ == "__main__":
    unittest.main()
