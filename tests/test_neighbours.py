import functools
import itertools
import random
import time
import unittest

from ownpartners import errors
from ownpartners.books import nought_book, rows_of, whole_book
from ownpartners.combining import beside, shared
from ownpartners.growing import all_through, fourfold_through, own_through
from ownpartners.neighbours import (
    are_neighbours, are_on_one_side, fourfold_neighbours_of, neighbour_by, neighbour_number, neighbours_of,
    steps_between, way_between, way_holds, ways_number)
from ownpartners.own import is_fourfold, is_own
from tests import reference
from tests.cases import HEXA, JUNK, NO_INTEGERS, PAIRS, RING, TETRA, BookCase, mutants, same
from tests.test_growing import random_nought_books
from tests.test_own import GOLAY, OCTA, OCTAD, books_with_rows, is_right_fourfold, is_right_own

SMALL = (("two", 2), ("two", 4), ("two", 6), ("three", 4), ("four", 2), ("four", 4))
OTHERS = ("three", 4, ((1, 0, 1, 2), (0, 1, 2, 2)))
TWO_BOOKS = (are_neighbours, steps_between, ways_number, way_between, are_on_one_side)
ONE_BOOK = (neighbours_of, fourfold_neighbours_of)


@functools.lru_cache(maxsize=None)
def all_own(kind, n):
    """All own partners with their sets of rows."""
    return {book: frozenset(rows_of(book)) for book in all_through(nought_book(kind, n), most=5000)}


@functools.lru_cache(maxsize=None)
def graph(kind, n):
    """For each own partner the ascending tuple of those that share one in q of its rows with it."""
    own = all_own(kind, n)
    q = reference.SIZES[kind]
    return {book: tuple(other for other in own if len(own[book] & own[other]) * q == len(own[book])) for book in own}


def distances(kind, n, book):
    """For each own partner its distance from a book, and the number of shortest ways, by going through all ways."""
    found = {book: (0, 1)}
    waiting = [book]
    while waiting:
        numbers = {}
        for one in waiting:
            for other in graph(kind, n)[one]:
                if other not in found:
                    numbers[other] = numbers.get(other, 0) + found[one][1]
        far = found[waiting[0]][0] + 1
        found.update({other: (far, number) for other, number in numbers.items()})
        waiting = list(numbers)
    return found


def is_right_way(one, other, thing):
    """Whether any value is a shortest way, by the words of [6.3]."""
    kind, n, _ = one
    if type(thing) is not tuple or not thing or not same(thing[0], one) or not same(thing[-1], other):
        return False
    if not all(type(part) is tuple and any(same(part, book) for book in all_own(kind, n)) for part in thing):
        return False
    if any(thing[k] not in graph(kind, n)[thing[k - 1]] for k in range(1, len(thing))):
        return False
    return len(thing) - 1 == distances(kind, n, one)[other][0]


class Neighbours(BookCase):
    def test_own_partners_found_by_going_through_all_books(self):
        for kind, n in SMALL:
            self.assertEqual(sorted(map(sorted, all_own(kind, n).values())), sorted(map(list, reference.own_sets(kind, n))))

    def test_as_going_through_all_own_partners_tells(self):
        for kind, n in SMALL + (("two", 8),):
            for book, others in graph(kind, n).items():
                self.assertEqual(neighbours_of(book), others)
                self.assertEqual(len(others), neighbour_number(kind, n))
                self.assertEqual(fourfold_neighbours_of(book), tuple(one for one in others if is_fourfold(one)))

    def test_neighbours_of_longer_books(self):
        for kind, n in (("three", 8), ("four", 6)):
            own = all_own(kind, n)
            for book in random.Random(kind).sample(sorted(own), 12):
                q = reference.SIZES[kind]
                due = tuple(one for one in own if len(own[one] & own[book]) * q == len(own[book]))
                self.assertEqual(neighbours_of(book), due)
                self.assertEqual(fourfold_neighbours_of(book), ())

    def test_neighbours_at_the_limits(self):
        for kind, n in (("two", 12), ("three", 8), ("four", 6)):
            book = own_through(nought_book(kind, n))
            begun = time.perf_counter()
            found = neighbours_of(book=book)
            self.assertLess(time.perf_counter() - begun, 3)
            self.assertEqual(len(found), neighbour_number(kind, n))
            self.assertEqual(list(found), sorted(set(found)))
            for one in found:
                self.assertTrue(is_own(one))
                self.assertEqual(len(shared(one, book)[2]), n // 2 - 1)
            self.assertEqual(fourfold_neighbours_of(book), ())

    def test_fourfold_neighbours(self):
        for book in all_own("two", 8):
            if is_fourfold(book):
                self.assertEqual(len(fourfold_neighbours_of(book=book)), neighbour_number("fourfold", 8))
        self.assertEqual(len(fourfold_neighbours_of(OCTAD)), 7)
        # A book that is not fourfold itself can have such neighbours, too.
        self.assertEqual(sum(map(len, map(fourfold_neighbours_of, all_own("two", 8)))),
                         sum(len(neighbours_of(book)) for book in all_own("two", 8) if is_fourfold(book)))

    def test_neighbour_by_all_rows(self):
        for kind, n in SMALL:
            for book, rows in all_own(kind, n).items():
                met = set()
                for row in reference.all_rows(kind, n):
                    if reference.meet(kind, row, row) or row in rows:
                        continue
                    found = neighbour_by(book, row)
                    kept = {one for one in rows if reference.meet(kind, one, row) == 0}
                    due = {reference.add_rows(kind, one, reference.times_row(kind, mark, row))
                           for one in kept for mark in range(reference.SIZES[kind])}
                    self.assertEqual(set(rows_of(found)), due)
                    met.add(found)
                self.assertEqual(met, set(graph(kind, n)[book]))

    def test_neighbour_by_any_of_its_rows(self):
        for book in (GOLAY, beside(OCTAD, OCTAD), beside(HEXA, ("four", 2, ((1, 2),)))):
            other = random.Random(str(book)).choice(neighbours_of(book))
            for row in rows_of(other):
                if row not in rows_of(book):
                    self.assertEqual(neighbour_by(row=row, book=book), other)
            self.assertIn(book, neighbours_of(other))

    def test_neighbour_number(self):
        for n in range(1, 17):
            h = n // 2
            self.assertEqual(neighbour_number("two", n), 0 if n % 2 else 2 * (2 ** (h - 1) - 1))
            self.assertEqual(neighbour_number("three", n), 0 if n % 4 else (3 ** h - 1) // 2)
            self.assertEqual(neighbour_number("four", n), 0 if n % 2 else 2 * (4 ** h - 1) // 3)
            self.assertEqual(neighbour_number("fourfold", n), 0 if n % 8 else 2 ** (h - 1) - 1)
        self.assertEqual([neighbour_number("two", 2), neighbour_number(n=16, family="fourfold")], [0, 127])


class Ways(BookCase):
    def check_pair(self, one, other, due, ways):
        self.assertEqual(steps_between(one, other), due)
        self.assertEqual(ways_number(one, other), ways)
        self.assert_is_bool(due == 1, are_neighbours(one, other))
        way = way_between(one, other)
        self.assertTrue(is_right_way(one, other, way))
        self.assert_is_bool(True, way_holds(one, other, way))
        if is_fourfold(one) and is_fourfold(other):
            self.assertTrue(all(map(is_fourfold, way)))

    def test_as_going_through_all_own_partners_tells(self):
        for kind, n in SMALL:
            for one in all_own(kind, n):
                found = distances(kind, n, one)
                self.assertEqual(set(found), set(all_own(kind, n)))
                for other, (far, number) in found.items():
                    self.check_pair(one, other, far, number)

    def test_two_at_8_places(self):
        for one in random.Random("ways").sample(sorted(all_own("two", 8)), 4) + [OCTAD]:
            for other, (far, number) in distances("two", 8, one).items():
                self.check_pair(one, other, far, number)

    def test_way_holds_for_all_tuples_of_own_partners(self):
        for kind, n, most in (("two", 4, 3), ("two", 6, 2), ("three", 4, 3), ("four", 2, 3)):
            own = sorted(all_own(kind, n))
            for one, other in itertools.product(own[:4], own):
                ways = 0
                for way in itertools.chain.from_iterable(itertools.product(own, repeat=k) for k in range(most + 1)):
                    due = is_right_way(one, other, way)
                    self.assert_is_bool(due, way_holds(one, other, way))
                    ways += due
                if steps_between(one, other) < most:
                    self.assertEqual(ways, ways_number(one, other))

    def test_ways_at_the_limits(self):
        for kind, n in (("two", 16), ("three", 12), ("four", 8)):
            own = [own_through(book) for book in random_nought_books(kind, (n,), 6)]
            if kind == "two":
                own += [fourfold_through(book) for book in random_nought_books(
                    kind, (n,), 4, lambda row: reference.weight(row) % 4 == 0)]
            begun = time.perf_counter()
            for one, other in itertools.product(own, repeat=2):
                way = way_between(one, other)
                self.assertEqual((way[0], way[-1], len(way)), (one, other, steps_between(one, other) + 1))
                self.assertEqual(len(shared(one, other)[2]), n // 2 - steps_between(one, other))
                for k in range(1, len(way)):
                    self.assertTrue(is_own(way[k]))
                    self.assertEqual(len(shared(way[k - 1], way[k])[2]), n // 2 - 1)
                self.assert_is_bool(True, way_holds(one, other, way))
                if is_fourfold(one) and is_fourfold(other):
                    self.assertTrue(all(map(is_fourfold, way)))
            self.assertLess(time.perf_counter() - begun, 20)
            self.assertGreaterEqual(max(steps_between(*pair) for pair in itertools.product(own, repeat=2)), 2)

    def test_numbers_of_ways(self):
        self.assertEqual([steps_between(TETRA, OTHERS), ways_number(TETRA, OTHERS)], [2, 4])
        one = beside(beside(TETRA, TETRA), TETRA)
        other = beside(beside(OTHERS, OTHERS), OTHERS)
        self.assertEqual([steps_between(one, other), ways_number(one, other)], [6, 1 * 4 * 13 * 40 * 121 * 364])
        one = ("four", 2, ((1, 1),))
        other = ("four", 2, ((1, 2),))
        for _ in range(2):
            one, other = beside(one, one), beside(other, other)
        self.assertEqual([steps_between(one, other), ways_number(one, other)], [4, 1 * 5 * 21 * 85])

    def test_changed_ways_hold_just_if_they_are_right(self):
        for kind, n in (("two", 4), ("two", 6), ("three", 4), ("four", 4)):
            own = sorted(all_own(kind, n))
            for one, other in random.Random(kind).sample(list(itertools.product(own, repeat=2)), 8) + [(own[0], own[0])]:
                way = way_between(one, other)
                for thing in mutants(way):
                    self.assert_is_bool(is_right_way(one, other, thing), way_holds(one, other, thing))
                for k, book in itertools.product(range(len(way)), own):
                    for thing in (way[:k] + (book,) + way[k + 1:], way[:k] + (book,) + way[k:]):
                        self.assert_is_bool(is_right_way(one, other, thing), way_holds(one, other, thing))

    def test_any_value(self):
        for one, other in ((PAIRS, PAIRS), (TETRA, OTHERS), (TETRA, TETRA)):
            for thing in JUNK + ((one, other), (one,), [one], one, (one, one), (one, None, other), (OCTAD, OCTAD),
                                 (one, GOLAY, other), (one, whole_book(*one[:2]), other), (one, "own", other),
                                 (one, nought_book(*one[:2]), other), (one, PAIRS, other), (one, TETRA, other),
                                 (one, RING, other), (RING,), (one, beside(HEXA, HEXA), other), (PAIRS, TETRA, PAIRS),
                                 (one, ("four", 4, ((1, 1, 0, 0), (0, 0, 1, 1))), other)):
                with self.subTest(one=one, thing=thing):
                    self.assert_is_bool(is_right_way(one, other, thing), way_holds(one, other, thing))
        bools = ("two", 4, tuple(tuple(map(bool, row)) for row in PAIRS[2]))
        self.assertEqual(bools, PAIRS)
        self.assert_is_bool(False, way_holds(PAIRS, PAIRS, (bools,)))

    def test_calls_by_name(self):
        self.assertEqual(steps_between(other=OTHERS, one=TETRA), 2)
        self.assertEqual(ways_number(other=OTHERS, one=TETRA), 4)
        self.assertFalse(are_neighbours(other=OTHERS, one=TETRA))
        self.assertTrue(are_on_one_side(other=OTHERS, one=TETRA))
        way = way_between(other=OTHERS, one=TETRA)
        self.assertEqual((way[0], way[-1]), (TETRA, OTHERS))
        self.assertTrue(way_holds(thing=way, other=OTHERS, one=TETRA))


class Sides(BookCase):
    def check_sides(self, own):
        sides = {}
        for book in own:
            sides.setdefault(frozenset(one for one in own if are_on_one_side(book, one)), []).append(book)
        self.assertEqual(len(sides), 2)
        for side, books in sides.items():
            self.assertEqual(side, frozenset(books))
            self.assertEqual(2 * len(books), len(own))
        for one, other in itertools.product(own, repeat=2):
            self.assert_is_bool(steps_between(one, other) % 2 == 0, are_on_one_side(one, other))
            self.assertFalse(are_neighbours(one, other) and are_on_one_side(one, other))

    def test_two_sides_of_three_and_of_fourfold_ones(self):
        self.check_sides(list(all_own("three", 4)))
        self.check_sides([book for book in all_own("two", 8) if is_fourfold(book)])

    def test_steps_of_three_have_an_even_sum(self):
        chance = random.Random("sides")
        for own in (sorted(all_own("three", 8)), [book for book in all_own("two", 8) if is_fourfold(book)],
                    [own_through(book) for book in random_nought_books("three", (12,), 8)]):
            for _ in range(40):
                one, other, third = (chance.choice(own) for _ in range(3))
                self.assertEqual((steps_between(one, other) + steps_between(other, third) + steps_between(third, one)) % 2, 0)
                on_one = [are_on_one_side(one, other), are_on_one_side(other, third), are_on_one_side(third, one)]
                self.assertIn(sum(on_one), (1, 3))

    def test_for_four_and_two_there_are_three_neighbours(self):
        for kind, n in (("four", 2), ("two", 4)):
            self.assertTrue(any(all(are_neighbours(*pair) for pair in itertools.combinations(three, 2))
                                for three in itertools.combinations(all_own(kind, n), 3)))


def right_own(book):
    rows = set(rows_of(book))
    return lambda thing: is_right_own(book[0], book[1], rows, thing) and thing != ("own",)


class Wrong(BookCase):
    def check_two(self, error, borne, one, other):
        for function in TWO_BOOKS:
            self.assert_bears(error, borne, function, one, other)
            self.assert_bears(error, borne, function, other=other, one=one)
        for thing in (None, (one, other), ["thing"]):
            self.assert_bears(error, borne, way_holds, one, other, thing)

    def check_one(self, error, borne, book):
        for function in ONE_BOOK:
            self.assert_bears(error, borne, function, book)
        for row in (None, (0,), (1, 1, 0, 0)):
            self.assert_bears(error, borne, neighbour_by, book, row)

    def test_bad_books(self):
        for book in JUNK:
            self.check_one(errors.BadBook, book, book)
            self.check_two(errors.BadBook, book, book, PAIRS)
            self.check_two(errors.BadBook, book, PAIRS, book)
            self.check_two(errors.BadBook, book, RING, book)
        first, second = ["first"], ["second"]
        self.check_two(errors.BadBook, first, first, second)

    def test_books_of_ring_come_next(self):
        whole = whole_book("two", 4)
        for ring in (RING, OCTA, ("ring", 3, ((1, 0, 0),))):
            self.check_one(errors.OtherKind, ring, ring)
            for book in (PAIRS, TETRA, HEXA, whole):
                self.check_two(errors.OtherKind, ring, ring, book)
                self.check_two(errors.OtherKind, ring, book, ring)
        self.check_two(errors.OtherKind, RING, RING, OCTA)

    def test_other_kinds_and_then_other_lengths(self):
        whole = whole_book("three", 3)
        for one, other in itertools.permutations((PAIRS, TETRA, HEXA, whole, GOLAY), 2):
            if one[0] != other[0]:
                self.check_two(errors.OtherKind, other, one, other)
            else:
                self.check_two(errors.OtherLength, other, one, other)
        self.check_two(errors.OtherLength, OCTAD, PAIRS, OCTAD)

    def test_not_own(self):
        for kind, n in (("two", 2), ("two", 3), ("three", 2), ("four", 2), ("two", 4)):
            for book, _ in books_with_rows(kind, n):
                if not is_own(book):
                    for function in ONE_BOOK:
                        self.check_certificate(errors.NotOwn, function, book, right_own(book))
                    self.check_certificate(errors.NotOwn, neighbour_by, book, right_own(book), None)

    def test_not_own_of_the_first_that_is_none(self):
        nought, whole = nought_book("two", 4), whole_book("two", 4)
        for one, other, first in ((nought, PAIRS, nought), (PAIRS, nought, nought), (nought, whole, nought),
                                  (whole, nought, whole), (PAIRS, whole, whole)):
            for function in TWO_BOOKS:
                self.check_certificate(errors.NotOwn, function, one, right_own(first), other)
            self.check_certificate(errors.NotOwn, way_holds, one, right_own(first), other, None)
        # Whether the kind is "four", or the books are fourfold, is asked only behind this.
        nought = nought_book("four", 2)
        self.check_certificate(errors.NotOwn, are_on_one_side, nought, right_own(nought), nought)

    def test_neighbour_by_wrong_rows(self):
        for book in (PAIRS, TETRA, HEXA, OCTAD):
            kind, n, _ = book
            for row in JUNK + ((0,) * (n - 1), (0,) * (n + 1), (reference.SIZES[kind],) + (0,) * (n - 1), [0] * n,
                               (True,) * n, (False,) * n):
                self.assert_bears(errors.BadRow, row, neighbour_by, book, row)
            chance = random.Random(kind)
            for row in reference.some_rows(chance, kind, n, 60) + book[2] + ((0,) * n,):
                if reference.meet(kind, row, row):
                    self.assert_bears(errors.MeetsItself, row, neighbour_by, book, row)
                elif row in rows_of(book):
                    self.assert_bears(errors.InBook, row, neighbour_by, row=row, book=book)
                else:
                    self.assertTrue(are_neighbours(book, neighbour_by(book, row)))

    def test_one_side_of_four(self):
        own = sorted(all_own("four", 2))
        for one, other in itertools.product(own, repeat=2):
            self.assert_bears(errors.OtherKind, one, are_on_one_side, one, other)

    def test_one_side_of_books_that_are_not_fourfold(self):
        pairs = beside(PAIRS, PAIRS)
        for one, other, first in ((pairs, OCTAD, pairs), (OCTAD, pairs, pairs), (pairs, pairs, pairs)):
            rows = set(rows_of(first))
            self.check_certificate(errors.NotFourfold, are_on_one_side, one, lambda thing: is_right_fourfold(
                8, rows, thing) and thing[0] == "weight", other)
        other = sorted(neighbours_of(pairs))[0]
        only = set(rows_of(pairs)) - set(rows_of(other))
        self.assertFalse(is_fourfold(other) or not only)
        self.check_certificate(errors.NotFourfold, are_on_one_side, pairs,
                               lambda thing: is_right_fourfold(8, set(rows_of(pairs)), thing), other)
        self.check_certificate(errors.NotFourfold, are_on_one_side, other,
                               lambda thing: is_right_fourfold(8, set(rows_of(other)), thing), pairs)

    def test_neighbour_numbers(self):
        for family in JUNK + ("ring",):
            if family not in ("two", "fourfold"):
                self.assert_bears(errors.BadFamily, family, neighbour_number, family, None)
                self.assert_bears(errors.BadFamily, family, neighbour_number, n=4, family=family)
        for family in ("two", "fourfold", "three", "four"):
            for n in NO_INTEGERS + (0, -1, 17, 10 ** 99, True, False):
                self.assert_bears(errors.BadLength, n, neighbour_number, family, n)


if __name__ == "__main__":
    unittest.main()
