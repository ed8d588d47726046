import functools
import itertools
import math
import random
import time
import unittest
from fractions import Fraction

from ownpartners import errors
from ownpartners.books import book_of, nought_book, rows_of, whole_book
from ownpartners.changes import changes_number, led
from ownpartners.combining import beside
from ownpartners.growing import own_through
from ownpartners.lists import judge_list, list_holds, share_sum, whole_list, whole_sum
from ownpartners.own import is_fourfold, is_own
from tests import reference
from tests.cases import BOOKS, HEXA, JUNK, NO_INTEGERS, PAIRS, RING, TETRA, BookCase, mutants, same
from tests.test_changes import random_change
from tests.test_likeness import UNLIKE
from tests.test_neighbours import all_own
from tests.test_ownlikeness import likenesses
from tests.test_own import GOLAY, OCTA, OCTAD

# How many books a whole list has, by the table of [8.2].
TABLE = {
    "two": {2: 1, 4: 1, 6: 1, 8: 2, 10: 2, 12: 3, 14: 4, 16: 7},
    "fourfold": {8: 1, 16: 2},
    "three": {4: 1, 8: 1, 12: 3},
    "four": {2: 1, 4: 1, 6: 2, 8: 3},
}
AT_LIMITS = [(family, n) for family, numbers in TABLE.items() for n in numbers if n <= (6 if family == "four" else 8)]
STEPS = {"two": 2, "fourfold": 8, "three": 4, "four": 2}


def kind_for(family):
    return "two" if family == "fourfold" else family


def number_by_5_6(family, n):
    h = n // 2
    if family == "two":
        return math.prod(2 ** i + 1 for i in range(1, h))
    if family == "fourfold":
        return 2 * math.prod(2 ** i + 1 for i in range(1, h - 1))
    if family == "three":
        return 2 * math.prod(3 ** i + 1 for i in range(1, h))
    return math.prod(2 ** (2 * i + 1) + 1 for i in range(h))


def fraction_for(family, n):
    kind = kind_for(family)
    return Fraction(number_by_5_6(family, n), math.factorial(n) * len(reference.UNITS[kind]) ** n)


def small_changes(kind, n):
    """Changes of which each change is made up: two places exchanged, or one mark multiplied."""
    same_places, ones = tuple(range(n)), (1,) * n
    for k in range(1, n):
        yield (same_places[:k - 1] + (k, k - 1) + same_places[k + 1:], ones)
    for unit in reference.UNITS[kind][1:]:
        yield (same_places, (unit,) + ones[1:])


@functools.lru_cache(maxsize=None)
def classes(family, n):
    """A dict that tells for each own partner the number of its class: two are alike just if they are of one class."""
    kind = kind_for(family)
    changes = tuple(small_changes(kind, n))
    found = {}
    for number, book in enumerate(all_own(kind, n)):
        if book in found or family == "fourfold" and not reference.is_fourfold_set(rows_of(book)):
            continue
        found[book] = number
        waiting = [book]
        while waiting:
            one = waiting.pop()
            for change in changes:
                other = led(one, change)
                if other not in found:
                    found[other] = number
                    waiting.append(other)
    return found


@functools.lru_cache(maxsize=None)
def likeness_numbers(family, n):
    """The number of likenesses of a book of each class: of all changes, those that lead it to one told image."""
    numbers = list(classes(family, n).values())
    every = math.factorial(n) * len(reference.UNITS[kind_for(family)]) ** n
    return {number: every // numbers.count(number) for number in set(numbers)}


def is_own_thing(family, n, thing):
    return type(thing) is tuple and any(same(thing, book) for book in classes(family, n))


def is_right(family, n, books, thing):
    """Whether any value is a certificate, by the words of [8.2]."""
    told = classes(family, n)
    found = [told[book] for book in books]
    if type(thing) is not tuple or not thing or type(thing[0]) is not str:
        return False
    if thing[0] == "whole" and len(thing) == 2:
        numbers = tuple(likeness_numbers(family, n)[number] for number in found)
        return same(thing[1], numbers) and sorted(found) == sorted(set(told.values()))
    if thing[0] == "lacks" and len(thing) == 2:
        return is_own_thing(family, n, thing[1]) and told[thing[1]] not in found
    if thing[0] != "twice" or len(thing) != 4 or any(type(at) is not int for at in thing[1:3]):
        return False
    _, i, j, change = thing
    if not 0 <= i < j < len(books) or not reference.is_right_change(kind_for(family), n, change):
        return False
    return led(books[i], change) == books[j]


def changed_lists(family, n):
    """Tuples of own partners: whole lists, and such with books left out, doubled, led, in another order."""
    chance = random.Random(f"{family} {n}")
    kind = kind_for(family)
    books = whole_list(family, n)
    twins = tuple(led(book, random_change(chance, kind, n)) for book in books)
    yield from ((), books, twins, books[::-1], books + twins, books + books[:1], twins[:1] + books, books[:1], books[1:],
                books[:1] + books[:1], twins[::-1][:1], twins + books[::-1])
    for _ in range(6):
        yield tuple(chance.sample(sorted(classes(family, n)), min(len(classes(family, n)), chance.randint(1, 4))))


class Whole(BookCase):
    def test_whole_sums(self):
        for family, step in STEPS.items():
            for n in range(step, 17, step):
                due = fraction_for(family, n)
                self.assertEqual(whole_sum(family, n), (due.numerator, due.denominator))
        self.assertEqual(whole_sum(n=8, family="fourfold"), (1, 1344))

    def test_whole_sums_are_the_sums_of_all_shares(self):
        for family, n in AT_LIMITS:
            due = sum(Fraction(1, number) for number in likeness_numbers(family, n).values())
            self.assertEqual(whole_sum(family, n), (due.numerator, due.denominator))

    def test_classes_have_as_many_likenesses_as_all_changes_tell(self):
        for family, n in (("two", 2), ("two", 4), ("two", 6), ("three", 4), ("four", 2), ("four", 4)):
            for book, number in random.Random(family).sample(sorted(classes(family, n).items()), 1):
                self.assertEqual(len(likenesses(book)), likeness_numbers(family, n)[number])

    def test_whole_lists_at_the_limits(self):
        for family, n in AT_LIMITS:
            begun = time.perf_counter()
            found = whole_list(family, n)
            self.assertLess(time.perf_counter() - begun, 5)
            self.assertIs(type(found), tuple)
            self.assertEqual(len(found), TABLE[family][n])
            told = classes(family, n)
            self.assertEqual(sorted(told[book] for book in found), sorted(set(told.values())))
            self.assertEqual(share_sum(found), whole_sum(family, n))
            self.assertEqual(whole_list(n=n, family=family), found)

    def test_longer_whole_lists(self):
        for family, n in (("two", 10), ("two", 12), ("two", 14), ("fourfold", 16), ("four", 8)):
            found = whole_list(family, n)
            self.assertEqual(len(found), TABLE[family][n])
            self.assertTrue(all(is_own(book) and book[:2] == (kind_for(family), n) for book in found))
            self.assertTrue(family != "fourfold" or all(map(is_fourfold, found)))
            self.assertEqual(share_sum(found), whole_sum(family, n))
            self.assertEqual(judge_list(family, n, found)[0], "whole")
            self.assertEqual(judge_list(family, n, found[1:])[0], "lacks")

    def test_share_sums(self):
        self.assertEqual(share_sum(()), (0, 1))
        self.assertEqual(share_sum(books=(PAIRS,)), (1, 8))
        # 1 / 2 four times comes to 2, and 1 / 48 three times to 1 / 16.
        two = ("two", 2, ((1, 1),))
        self.assertEqual([share_sum((two,) * 4), share_sum((TETRA,) * 3), share_sum((two,) * 3)], [(2, 1), (1, 16), (3, 2)])

    def test_share_sums_of_books_of_all_kinds(self):
        chance = random.Random("shares")
        pool = [book_of(kind, n, makers) for kind, n in (("two", 3), ("three", 2), ("four", 2), ("ring", 2), ("ring", 3))
                for makers, _ in reference.closed_sets(kind, n)]
        for _ in range(40):
            books = tuple(chance.sample(pool, chance.randint(1, 6)))
            due = sum(Fraction(1, len(likenesses(book))) for book in books)
            self.assertEqual(share_sum(books), (due.numerator, due.denominator))

    def test_share_sums_at_the_limits(self):
        begun = time.perf_counter()
        books = tuple(book for pair in UNLIKE for book in pair) + (OCTAD, OCTA, whole_book("two", 8))
        top, bottom = share_sum(books)
        self.assertEqual(math.gcd(top, bottom), 1)
        self.assertEqual(share_sum((OCTAD, OCTA)), (1, 896))
        self.assertEqual(share_sum((nought_book("four", 8),)), (1, changes_number("four", 8)))
        self.assertLess(time.perf_counter() - begun, 5)


class Judged(BookCase):
    def test_what_is_judged_is_right(self):
        for family, n in AT_LIMITS:
            for books in changed_lists(family, n):
                begun = time.perf_counter()
                certificate = judge_list(family, n, books)
                self.assertTrue(is_right(family, n, books, certificate), (books, certificate))
                self.assert_is_bool(True, list_holds(family, n, books, certificate))
                self.assertLess(time.perf_counter() - begun, 5)
                self.assertEqual(certificate, judge_list(books=books, n=n, family=family))
                due = sorted(classes(family, n)[book] for book in books) == sorted(set(classes(family, n).values()))
                self.assertEqual(certificate[0] == "whole", due)

    def test_certificates_that_are_both_right(self):
        books = (OCTAD, OCTAD)
        self.assertIn(judge_list("two", 8, books)[0], ("twice", "lacks"))
        other = next(book for book in all_own("two", 8) if not is_fourfold(book))
        self.assert_is_bool(True, list_holds("two", 8, books, ("lacks", other)))
        self.assert_is_bool(True, list_holds("two", 8, books, ("twice", 0, 1, (tuple(range(8)), (1,) * 8))))
        self.assert_is_bool(False, list_holds("two", 8, books, ("lacks", OCTAD)))
        self.assert_is_bool(False, list_holds("two", 8, books, ("whole", (1344, 1344))))
        self.assert_is_bool(False, list_holds("fourfold", 8, (), ("lacks", other)))
        self.assert_is_bool(True, list_holds("fourfold", 8, (), ("lacks", OCTAD)))
        self.assertEqual(judge_list("fourfold", 8, ())[0], "lacks")

    def test_a_sum_that_is_right_is_not_enough(self):
        pairs = own_through(("two", 12, tuple((0,) * (2 * k) + (1, 1) + (0,) * (10 - 2 * k) for k in range(6))))
        octad = beside(OCTAD, PAIRS)
        books = (pairs, pairs, octad, pairs)
        self.assertEqual(share_sum(books), whole_sum("two", 12))
        self.assert_is_bool(False, list_holds("two", 12, books, ("whole", (46080, 46080, 10752, 46080))))
        self.assert_is_bool(True, list_holds("two", 12, books, judge_list("two", 12, books)))
        self.assertEqual(judge_list("two", 12, books)[0], "twice")

    def test_every_own_partner_and_every_change(self):
        for family, n in (("two", 4), ("two", 6), ("three", 4), ("four", 2), ("fourfold", 8)):
            chance = random.Random(family)
            kind = kind_for(family)
            for books in changed_lists(family, n):
                for book in chance.sample(sorted(classes(family, n)), min(8, len(classes(family, n)))):
                    thing = ("lacks", book)
                    self.assert_is_bool(is_right(family, n, books, thing), list_holds(family, n, books, thing))
                for _ in range(20):
                    at = (chance.randint(-1, len(books)), chance.randint(-1, len(books)))
                    change = random_change(chance, kind, n)
                    for thing in (("twice",) + at + (change,), ("twice", 0, 1, change)):
                        self.assert_is_bool(is_right(family, n, books, thing), list_holds(family, n, books, thing))

    def test_changed_certificates_hold_just_if_they_are_right(self):
        for family, n in (("two", 2), ("two", 4), ("two", 6), ("three", 4), ("four", 4), ("fourfold", 8)):
            for books in changed_lists(family, n):
                if len(books) > 3:
                    continue
                for thing in mutants(judge_list(family, n, books)):
                    self.assert_is_bool(is_right(family, n, books, thing), list_holds(family, n, books, thing))

    def test_changed_certificates_of_longer_lists(self):
        for family, n in (("two", 8), ("four", 6), ("three", 8)):
            chance = random.Random(family)
            for books in itertools.islice(changed_lists(family, n), 10):
                things = list(mutants(judge_list(family, n, books)))
                for thing in chance.sample(things, min(40, len(things))):
                    self.assert_is_bool(is_right(family, n, books, thing), list_holds(family, n, books, thing))

    def test_certificates_of_other_lists(self):
        for family, n in (("two", 4), ("two", 8), ("four", 4), ("three", 4)):
            lists = list(itertools.islice(changed_lists(family, n), 10))
            for books, others in itertools.product(lists, repeat=2):
                thing = judge_list(family, n, others)
                self.assert_is_bool(is_right(family, n, books, thing), list_holds(family, n, books, thing))

    def test_any_value(self):
        words = ("whole", "twice", "lacks", ("whole",), ("twice",), ("lacks",), ("whole", ()), ("whole", []), ("whole", 8),
                 ("whole", (True,)), ("whole", [8]), ("lacks", None), ("lacks", []), ("lacks", TETRA), ("lacks", HEXA),
                 ("lacks", ("two", 2, ((1, 1),))), ("twice", 0, 0, None), ("twice", False, True, ((0, 1), (1, 1))),
                 ["whole", (8,)], ("whole", (8,), None), ("twice", 0, 1, ((0, 1, 2, 3), [1] * 4)), ("twice", "0", "1", 2))
        for family, n, books in (("two", 4, (PAIRS,)), ("two", 4, (PAIRS, PAIRS)), ("two", 2, ()), ("three", 4, (TETRA,)),
                                 ("four", 6, (HEXA,)), ("two", 2, (("two", 2, ((1, 1),)),))):
            for thing in JUNK + words:
                with self.subTest(books=books, thing=thing):
                    self.assert_is_bool(is_right(family, n, books, thing), list_holds(family, n, books, thing))
        self.assertTrue(list_holds(thing=("whole", (8,)), books=(PAIRS,), n=4, family="two"))


class Wrong(BookCase):
    def check(self, error, borne, family, n, books=(None,)):
        """Of an error ahead of BadBooks."""
        for arguments in ((family, n), (family, n, books), (family, n, books, None)):
            for function in {2: (whole_sum, whole_list), 3: (judge_list,), 4: (list_holds,)}[len(arguments)]:
                named = dict(zip(("thing", "books", "n", "family")[4 - len(arguments):], arguments[::-1]))
                if borne is self:
                    self.assert_bare(error, function, *arguments)
                    self.assert_bare(error, function, **named)
                else:
                    self.assert_bears(error, borne, function, *arguments)
                    self.assert_bears(error, borne, function, **named)

    def test_bad_families_come_first(self):
        for family in JUNK + ("ring", ("two",), ["two"]):
            if family not in ("two", "fourfold"):
                self.check(errors.BadFamily, family, family, None)
                self.check(errors.BadFamily, family, family, 3)

    def test_bad_lengths(self):
        for family in STEPS:
            for n in NO_INTEGERS + (0, -1, -4, 17, 20, 24, 10 ** 99, True, False):
                self.check(errors.BadLength, n, family, n)

    def test_no_own(self):
        for family, step in STEPS.items():
            for n in range(1, 17):
                if n % step:
                    self.check(errors.NoOwn, self, family, n)
                    self.check(errors.NoOwn, self, family, n, ())

    def check_books(self, family, n, books):
        self.assert_bears(errors.BadBooks, books, judge_list, family, n, books)
        self.assert_bears(errors.BadBooks, books, judge_list, books=books, n=n, family=family)
        for thing in (None, ("whole", ()), ["thing"]):
            self.assert_bears(errors.BadBooks, books, list_holds, family, n, books, thing)
        self.assert_bears(errors.BadBooks, books, list_holds, thing=None, books=books, n=n, family=family)

    def test_bad_books(self):
        for books in JUNK + (PAIRS, [PAIRS], (PAIRS, TETRA), (PAIRS, None), (PAIRS, [PAIRS]), (nought_book("two", 4),),
                             (whole_book("two", 4), PAIRS), (("two", 2, ((1, 1),)),), ((PAIRS,),), {PAIRS: PAIRS},
                             (("two", 4, [(1, 1, 0, 0), (0, 0, 1, 1)]),), (("two", 4, ((True, 1, 0, 0), (0, 0, 1, 1))),)):
            self.check_books("two", 4, books)
        self.check_books("three", 4, (PAIRS,))
        self.check_books("four", 6, (HEXA, ("four", 2, ((1, 1),))))
        self.check_books("three", 8, (GOLAY,))
        self.check_books("two", 8, (OCTA,))
        for book in all_own("two", 8):
            if not is_fourfold(book):
                self.check_books("fourfold", 8, (OCTAD, book))
                break
        for thing in mutants((PAIRS,)):
            good = type(thing) is tuple and all(is_own_thing("two", 4, book) for book in thing)
            if good:
                self.assertTrue(list_holds("two", 4, thing, judge_list("two", 4, thing)))
            else:
                self.check_books("two", 4, thing)

    def test_bad_books_of_share_sums(self):
        for books in JUNK + (PAIRS, [PAIRS], (PAIRS, None), (None, PAIRS), ((PAIRS,),), {PAIRS: 1}, list(BOOKS),
                             BOOKS + ([],), (("two", 4, ((True, 1, 0, 0),)),), (list(RING),)):
            self.assert_bears(errors.BadBooks, books, share_sum, books)
            self.assert_bears(errors.BadBooks, books, share_sum, books=books)


if __name__ == "__main__":
    unittest.main()
