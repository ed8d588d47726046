import functools
import itertools
import random
import time
import unittest

from ownpartners import errors
from ownpartners.books import book_of, nought_book, rows_of, whole_book
from ownpartners.changes import both_changes, change_undone, changes_number, led
from ownpartners.ownlikeness import chain_holds, images_of, is_likeness, judge_chain, likeness_number
from tests import reference
from tests.cases import BOOKS, HEXA, JUNK, PAIRS, RING, TETRA, BookCase, mutants, same
from tests.test_changes import identity, random_change
from tests.test_likeness import DEEP, SMALL, UNLIKE

OCTAD = ("two", 8, ((1, 0, 0, 0, 0, 1, 1, 1), (0, 1, 0, 0, 1, 0, 1, 1), (0, 0, 1, 0, 1, 1, 0, 1), (0, 0, 0, 1, 1, 1, 1, 0)))
OCTA = ("ring", 8, ((1, 0, 0, 0, 3, 1, 2, 1), (0, 1, 0, 0, 1, 2, 3, 1), (0, 0, 1, 0, 3, 3, 3, 2), (0, 0, 0, 1, 2, 3, 1, 1)))

# In their chains one tree is more than the word alone.
BRANCHED = (("ring", 5, ((1, 0, 0, 3, 1), (0, 1, 1, 0, 3), (0, 0, 2, 2, 2))),
            ("four", 6, ((1, 0, 0, 3, 0, 2), (0, 1, 0, 2, 2, 3), (0, 0, 1, 1, 1, 1))))


def likenesses(book):
    """All likenesses, by going through all changes."""
    kind, n, _ = book
    rows = frozenset(rows_of(book))
    return [change for change in reference.all_changes(kind, n) if reference.lead_all(kind, change, rows) == rows]


def images_by(n, changes):
    """The images of all places, of all likenesses, by the words of [4.5]."""
    found = []
    for i in range(n):
        kept = [(places, factors) for places, factors in changes
                if all((places[j], factors[j]) == (j, 1) for j in range(i))]
        found.append(tuple(sorted({(places[i], factors[i]) for places, factors in kept})))
    return tuple(found)


@functools.lru_cache(maxsize=None)
def tree_for(book, i, p, f):
    rows = rows_of(book)
    beginning = tuple((j, 1) for j in range(i)) + ((p, f),)
    return reference.tree(book[0], book[1], rows, rows, beginning)


def is_right_link(book, i, p, f, link):
    if type(link) is not tuple or len(link) != 2 or type(link[0]) is not str:
        return False
    if link[0] == "change":
        kind, n, _ = book
        if not reference.is_right_change(kind, n, link[1]):
            return False
        begins = tuple(zip(*link[1]))[:i + 1] == tuple((j, 1) for j in range(i)) + ((p, f),)
        rows = frozenset(rows_of(book))
        return begins and reference.lead_all(kind, link[1], rows) == rows
    due = tree_for(book, i, p, f)
    return link[0] == "cases" and due is not None and same(link[1], due)


def is_right_chain(book, thing):
    """Whether any value is a chain, by the words of [4.5]."""
    kind, n, _ = book
    if type(thing) is not tuple or len(thing) != n:
        return False
    for i, links in enumerate(thing):
        pairs = list(itertools.product(range(i, n), reference.UNITS[kind]))
        if type(links) is not tuple or len(links) != len(pairs):
            return False
        if not all(is_right_link(book, i, p, f, link) for (p, f), link in zip(pairs, links)):
            return False
    return True


class Likenesses(BookCase):
    def check_book(self, book, changes):
        n = book[1]
        self.assertEqual(images_of(book), images_by(n, changes))
        self.assertEqual(likeness_number(book), len(changes))
        chain = judge_chain(book)
        self.assertTrue(is_right_chain(book, chain), book)
        self.assert_is_bool(True, chain_holds(book, chain))

    def test_as_going_through_all_changes_tells(self):
        for kind, n in SMALL:
            for makers, _ in reference.closed_sets(kind, n):
                book = book_of(kind, n, makers)
                self.check_book(book, likenesses(book))

    def test_four_places_of_three_and_ring(self):
        for kind in ("three", "ring"):
            chance = random.Random("likenesses " + kind)
            for _ in range(12):
                book = book_of(kind, 4, reference.some_rows(chance, kind, 4, chance.randint(0, 3)))
                self.check_book(book, likenesses(book))
        self.check_book(TETRA, likenesses(TETRA))
        self.check_book(RING, likenesses(RING))

    def test_is_likeness_of_all_changes(self):
        for kind, n in SMALL:
            chance = random.Random("is likeness " + kind)
            for makers, _ in chance.sample(reference.closed_sets(kind, n), min(8, len(reference.closed_sets(kind, n)))):
                book = book_of(kind, n, makers)
                right = set(likenesses(book))
                for change in reference.all_changes(kind, n):
                    self.assert_is_bool(change in right, is_likeness(book, change))

    def test_known_numbers_at_8_places(self):
        begun = time.perf_counter()
        self.assertEqual([likeness_number(book) for book in (OCTAD, OCTA, HEXA)], [1344, 2688, 1080])
        self.assertEqual(likeness_number(whole_book("two", 8)), 40320)
        for kind in reference.KINDS:
            self.assertEqual(likeness_number(nought_book(kind, 8)), changes_number(kind, 8))
            units = len(reference.UNITS[kind])
            self.assertEqual(likeness_number(book_of(kind, 8, ((1,) * 8,))), 40320 * units)
            # Of the four pairs each can be put for each, turned over, and multiplied.
            pairs = tuple((0,) * (2 * k) + (1, 1) + (0,) * (6 - 2 * k) for k in range(4))
            self.assertEqual(likeness_number(book_of(kind, 8, pairs)), 24 * (2 * units) ** 4)
        self.assertLess(time.perf_counter() - begun, 10)

    def test_images_of_led_books_go_with_them(self):
        for book in (OCTAD, OCTA, HEXA, UNLIKE[1][0], UNLIKE[2][1], UNLIKE[3][0]):
            kind, n, _ = book
            change = random_change(random.Random(kind), kind, n)
            other = led(book, change)
            self.assertEqual(likeness_number(other), likeness_number(book))
            for links in judge_chain(book):
                for word, proof in links:
                    if word == "change":
                        self.assertTrue(is_likeness(book, proof))
                        moved = both_changes(kind, both_changes(kind, change_undone(kind, change), proof), change)
                        self.assertTrue(is_likeness(other, moved))

    def test_chains_at_the_limits(self):
        for book in (OCTAD, OCTA, whole_book("two", 8), *(book for pair in UNLIKE for book in pair)):
            begun = time.perf_counter()
            chain = judge_chain(book)
            self.assertTrue(chain_holds(book, chain))
            self.assertLess(time.perf_counter() - begun, 5)
            found = tuple(tuple(pair for pair, link in zip(itertools.product(range(i, 8), reference.UNITS[book[0]]), links)
                                if link[0] == "change") for i, links in enumerate(chain))
            self.assertEqual(found, images_of(book))
            self.assertTrue(is_right_chain(book, chain))

    def test_is_likeness_of_books_with_any_number_of_rows(self):
        for kind in reference.KINDS:
            change = random_change(random.Random(kind), kind, 16)
            self.assert_is_bool(True, is_likeness(whole_book(kind, 16), change))
            self.assert_is_bool(True, is_likeness(nought_book(kind, 16), change))
            self.assert_is_bool(False, is_likeness(nought_book(kind, 15), change))
        book = book_of("three", 16, ((1,) * 16, (0, 1, 2) * 5 + (0,)))
        self.assert_is_bool(True, is_likeness(book, identity(16)))
        self.assert_is_bool(False, is_likeness(book, (tuple(range(16)), (2,) + (1,) * 15)))


class Holds(BookCase):
    def test_changed_chains_hold_just_if_they_are_right(self):
        for book in (("two", 1, ()), ("two", 2, ((1, 0),)), ("two", 3, ((1, 1, 0),)), PAIRS, ("three", 2, ((1, 0),)),
                     ("three", 2, ((1, 1),)), ("four", 2, ((1, 2),)), ("ring", 2, ((2, 1), (0, 2))),
                     ("ring", 3, ((1, 3, 0),)), ("two", 4, ((1, 1, 0, 0), (0, 0, 1, 0)))):
            chain = judge_chain(book)
            for thing in mutants(chain):
                self.assert_is_bool(is_right_chain(book, thing), chain_holds(book, thing))

    def test_changed_trees_within_chains(self):
        for book in BRANCHED:
            chain = judge_chain(book)
            self.assertTrue(is_right_chain(book, chain))
            trees = 0
            for i, links in enumerate(chain):
                for at, link in enumerate(links):
                    if link[0] == "cases" and link[1] != "clash":
                        trees += 1
                        for changed in mutants(link):
                            thing = chain[:i] + (links[:at] + (changed,) + links[at + 1:],) + chain[i + 1:]
                            self.assert_is_bool(is_right_chain(book, thing), chain_holds(book, thing))
            self.assertEqual(trees, 1)

    def test_changed_chains_of_greater_books(self):
        for book in (*BRANCHED, DEEP[1][0], DEEP[1][1], DEEP[3][0], DEEP[4][1], TETRA):
            chain = judge_chain(book)
            chance = random.Random(str(book))
            for thing in [thing for thing in mutants(chain) if chance.random() < 0.02]:
                self.assert_is_bool(is_right_chain(book, thing), chain_holds(book, thing))

    def test_each_likeness_with_the_image_is_right_in_a_chain(self):
        for book in (PAIRS, ("three", 3, ((1, 1, 1),)), ("ring", 2, ((1, 1), (0, 2)))):
            kind, n, _ = book
            chain = judge_chain(book)
            for i in range(n):
                pairs = list(itertools.product(range(i, n), reference.UNITS[kind]))
                for at, change in itertools.product(range(len(pairs)), likenesses(book)):
                    links = chain[i][:at] + (("change", change),) + chain[i][at + 1:]
                    thing = chain[:i] + (links,) + chain[i + 1:]
                    self.assert_is_bool(is_right_chain(book, thing), chain_holds(book, thing))

    def test_chains_of_other_books(self):
        for one, other in itertools.permutations(BOOKS + DEEP[1] + (OCTAD, OCTA), 2):
            chain = judge_chain(one)
            self.assert_is_bool(is_right_chain(other, chain), chain_holds(other, chain))

    def test_any_value(self):
        for book in BOOKS:
            for thing in JUNK + ((((),),), ((("change", ((0,), (1,))),),), ((("cases", "clash"),),), (("change",),),
                                 ((("change", ((0,), (True,))),),), (((0, 1),),), ((("clash",),),), "clash"):
                with self.subTest(book=book, thing=thing):
                    self.assert_is_bool(is_right_chain(book, thing), chain_holds(book, thing))
                    due = reference.is_right_change(book[0], book[1], thing)
                    self.assert_is_bool(due and led(book, thing) == book, is_likeness(book, thing))
        for thing in mutants(((1, 0, 2, 3), (1, 1, 1, 2))):
            due = reference.is_right_change("three", 4, thing) and led(TETRA, thing) == TETRA
            self.assert_is_bool(due, is_likeness(TETRA, thing))

    def test_calls_by_name(self):
        book = ("two", 3, ((1, 1, 0),))
        self.assertEqual(images_of(book=book), (((0, 1), (1, 1)), ((1, 1),), ((2, 1),)))
        self.assertEqual(likeness_number(book=book), 2)
        self.assertTrue(chain_holds(thing=judge_chain(book=book), book=book))
        self.assertTrue(is_likeness(thing=((1, 0, 2), (1, 1, 1)), book=book))


class Wrong(BookCase):
    def test_bad_books(self):
        for book in JUNK:
            for function in (images_of, likeness_number, judge_chain):
                self.assert_bears(errors.BadBook, book, function, book)
                self.assert_bears(errors.BadBook, book, function, book=book)
            for function in (chain_holds, is_likeness):
                self.assert_bears(errors.BadBook, book, function, book, None)
                self.assert_bears(errors.BadBook, book, function, thing=["thing"], book=book)


if __name__ == "__main__":
    unittest.main()
