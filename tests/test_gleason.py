import functools
import itertools
import random
import time
import unittest

from ownpartners import errors
from ownpartners.counts import counts_of, least_weight
from ownpartners.gleason import (
    bar_holds, counts_from, counts_hold, extreme_counts, judge_bar, judge_counts, least_bound, told_products)
from ownpartners.growing import own_through
from ownpartners.neighbours import neighbours_of
from ownpartners.own import is_fourfold
from tests import reference
from tests.cases import JUNK, NO_INTEGERS, BookCase, mutants
from tests.test_growing import random_nought_books
from tests.test_own import OWN

STEPS = {"two": 2, "fourfold": 8, "three": 4, "four": 2}
GAPS = {"two": 2, "fourfold": 4, "three": 3, "four": 2}
DEGREES = {"two": (2, 8), "fourfold": (8, 24), "three": (4, 12), "four": (2, 6)}
SIZES = {"two": 2, "fourfold": 2, "three": 3, "four": 4}
PLACES = ((1, 0), (1, 1), (2, 1), (1, 2), (3, -1), (-2, 5), (7, 4))


def told_sum(family, x, y):
    """The worth of f at x and y, as the table of [7.1] has it."""
    return {"two": x * x + y * y, "fourfold": x ** 8 + 14 * x ** 4 * y ** 4 + y ** 8, "three": x ** 4 + 8 * x * y ** 3,
            "four": x * x + 3 * y * y}[family]


def other_sum(family, x, y):
    """The worth of g at x and y, as the table of [7.1] has it."""
    return {"two": x * x * y * y * (x * x - y * y) ** 2, "fourfold": x ** 4 * y ** 4 * (x ** 4 - y ** 4) ** 4,
            "three": y ** 3 * (x ** 3 - y ** 3) ** 3, "four": y * y * (x * x - y * y) ** 2}[family]


def worth(numbers, x, y):
    n = len(numbers) - 1
    return sum(number * x ** (n - w) * y ** w for w, number in enumerate(numbers))


def all_lengths():
    return [(family, n) for family in STEPS for n in range(STEPS[family], 49, STEPS[family])]


@functools.lru_cache(maxsize=None)
def products(family, n):
    """The told products, by multiplying out the told sums as dicts of powers."""
    def times(one, other):
        found = {}
        for (a, r), (b, s) in itertools.product(one.items(), other.items()):
            found[a + b] = found.get(a + b, 0) + r * s
        return found

    def power(one, k):
        found = {0: 1}
        for _ in range(k):
            found = times(found, one)
        return found
    f = {"two": {0: 1, 2: 1}, "fourfold": {0: 1, 4: 14, 8: 1}, "three": {0: 1, 3: 8}, "four": {0: 1, 2: 3}}[family]
    core = {"two": ({2: 1}, {0: 1, 2: -1}, 2), "fourfold": ({4: 1}, {0: 1, 4: -1}, 4), "three": ({3: 1}, {0: 1, 3: -1}, 3),
            "four": ({2: 1}, {0: 1, 2: -1}, 2)}[family]
    g = times(core[0], power(core[1], core[2]))
    df, dg = DEGREES[family]
    found = []
    for b in range(n // dg + 1):
        if (n - b * dg) % df == 0:
            one = times(power(f, (n - b * dg) // df), power(g, b))
            found.append(tuple(one.get(w, 0) for w in range(n + 1)))
    return tuple(found)


def fit(family, n, numbers):
    """The only sum that has the same numbers at the weights 0, c, 2 c, .., and its multiples."""
    left, multiples = list(numbers), []
    for b, product in enumerate(products(family, n)):
        multiple = left[GAPS[family] * b]
        multiples.append(multiple)
        left = [a - multiple * p for a, p in zip(left, product)]
    return tuple(multiples), tuple(a - b for a, b in zip(numbers, left))


def is_int(thing):
    return type(thing) is int


def is_right(family, n, numbers, thing):
    """Whether any value is a certificate of [7.2]."""
    if type(thing) is not tuple or not thing:
        return False
    if thing[0] == "sum" and len(thing) == 2:
        told = products(family, n)
        if type(thing[1]) is not tuple or len(thing[1]) != len(told) or not all(map(is_int, thing[1])):
            return False
        return all(sum(m * p[w] for m, p in zip(thing[1], told)) == numbers[w] for w in range(n + 1))
    if thing[0] != "unlike" or len(thing) != 3 or not is_int(thing[1]) or not is_int(thing[2]):
        return False
    _, w, due = thing
    return 0 <= w <= n and numbers[w] != due and fit(family, n, numbers)[1][w] == due


@functools.lru_cache(maxsize=None)
def signed_line(n, w):
    """The coefficients of (x + y) ** (n - w) (x - y) ** w, by multiplying out."""
    line = [1]
    for sign in [1] * (n - w) + [-1] * w:
        line = [(line[k] if k < len(line) else 0) + (sign * line[k - 1] if k else 0) for k in range(len(line) + 1)]
    return line


def shadow_number(n, numbers, j):
    """The coefficient of [7.4] for j, not yet divided."""
    return sum((-1) ** (w // 2) * numbers[w] * signed_line(n, w)[j] for w in range(0, n + 1, 2))


def is_right_bar(family, n, numbers, thing):
    """Whether any value is a certificate of [7.5]."""
    if type(thing) is not tuple or not thing or type(thing[0]) is not str or thing[0] == "sum":
        return False
    if thing[0] == "unlike":
        return is_right(family, n, numbers, thing)
    if thing[0] == "first":
        return len(thing) == 1 and numbers[0] != 1
    if len(thing) != 2 or not is_int(thing[1]) or not 0 <= thing[1] <= n:
        return False
    w = thing[1]
    if thing[0] == "below":
        return numbers[w] < 0
    if thing[0] == "units":
        return w > 0 and numbers[w] % {"two": 1, "fourfold": 1, "three": 2, "four": 3}[family] != 0
    if thing[0] != "shadow" or family != "two":
        return False
    number = shadow_number(n, numbers, w)
    return number < 0 or number % 2 ** (n // 2) != 0


def some_numbers(chance, family, n):
    """Numbers of many sorts: sums of the told products, as they are or changed, small and great ones."""
    style = chance.randrange(6)
    top = chance.choice((1, 3, 50, 10 ** 59))
    if style == 0:
        return tuple(chance.randint(-top, top) for _ in range(n + 1))
    multiples = [1] + [chance.randint(-top, top) for _ in products(family, n)[1:]]
    if style == 1:
        multiples[0] = chance.randint(-2, 2)
    if style == 2:
        multiples = [1] + [chance.choice((0, -1, -2, 6, -4)) for _ in multiples[1:]]
    numbers = [sum(m * p[w] for m, p in zip(multiples, products(family, n))) for w in range(n + 1)]
    if style > 3:
        w = chance.randint(0, n)
        numbers[w] += chance.choice((1, -1, 2, 6, -numbers[w]))
    return tuple(numbers)


def own_books():
    """Own partners of all families and many lengths, with their families."""
    found = list(OWN)
    for kind in ("two", "three", "four"):
        found += [own_through(book) for book in random_nought_books(kind, range(STEPS[kind], 17, STEPS[kind]), 12)
                  if kind != "four" or book[1] <= 12]
    found += [one for book in found[:4] if book[0] != "ring" for one in neighbours_of(book)]
    for book in found:
        if book[0] != "ring":
            yield book[0], book
            if is_fourfold(book):
                yield "fourfold", book


class ToldProducts(BookCase):
    def test_products_of_the_told_sums(self):
        for family, n in all_lengths():
            told = told_products(family, n)
            df, dg = DEGREES[family]
            self.assertEqual(len(told), n // dg + 1)
            self.assertEqual(told, products(family, n))
            for b, numbers in enumerate(told):
                self.assertEqual(len(numbers), n + 1)
                at = GAPS[family] * b
                self.assertEqual(numbers[:at + 1], (0,) * at + (1,))
                for x, y in PLACES:
                    due = told_sum(family, x, y) ** ((n - b * dg) // df) * other_sum(family, x, y) ** b
                    self.assertEqual(worth(numbers, x, y), due)

    def test_each_is_what_partner_counts_makes_of_it(self):
        for family, n in all_lengths():
            q = SIZES[family]
            for numbers in told_products(n=n, family=family):
                for x, y in PLACES:
                    led = worth(numbers, x + (q - 1) * y, x - y)
                    self.assertEqual(led * led, q ** n * worth(numbers, x, y) ** 2)
                    self.assertGreaterEqual(led * worth(numbers, x, y), 0)

    def test_small_ones(self):
        self.assertEqual(told_products("four", 2), ((1, 0, 3),))
        self.assertEqual(told_products("three", 12)[1], (0, 0, 0, 1, 0, 0, -3, 0, 0, 3, 0, 0, -1))


class Sums(BookCase):
    def test_counts_of_own_partners_are_sums(self):
        seen = set()
        for family, book in own_books():
            n, counts = book[1], counts_of(book)
            word, multiples = judge_counts(family, n, counts)
            self.assertEqual(word, "sum")
            self.assertEqual(multiples, fit(family, n, counts)[0])
            self.assert_is_bool(True, counts_hold(family, n, counts, ("sum", multiples)))
            self.assertIsNone(judge_bar(family, n, counts))
            self.assertLessEqual(least_weight(book), least_bound(family, n))
            if least_weight(book) == least_bound(family, n):
                self.assertEqual(counts, extreme_counts(family, n))
                seen.add((family, n))
        self.assertGreaterEqual(seen, {("fourfold", 8), ("three", 12), ("four", 6), ("two", 4), ("two", 8), ("fourfold", 16)})

    def test_counts_of_all_own_partners_of_small_lengths(self):
        for kind, n in (("two", 2), ("two", 4), ("two", 6), ("three", 4), ("four", 2), ("four", 4), ("two", 8)):
            for rows in reference.own_sets(kind, n):
                weights = [reference.weight(row) for row in rows]
                counts = tuple(weights.count(w) for w in range(n + 1))
                self.assertEqual(judge_counts(kind, n, counts)[0], "sum")
                self.assertIsNone(judge_bar(kind, n, counts))
                if kind == "two" and n == 8 and reference.is_fourfold_set(rows):
                    self.assertEqual(judge_counts("fourfold", n, counts), ("sum", (1,)))

    def test_judge_counts_of_all_sorts_of_numbers(self):
        words = set()
        for family, n in all_lengths():
            chance = random.Random(f"{family} {n}")
            for _ in range(5):
                numbers = some_numbers(chance, family, n)
                certificate = judge_counts(family, n, numbers)
                words.add((family, certificate[0]))
                self.assertTrue(is_right(family, n, numbers, certificate))
                self.assert_is_bool(True, counts_hold(family, n, numbers, certificate))
                multiples, due = fit(family, n, numbers)
                self.assert_is_bool(due == numbers, counts_hold(family, n, numbers, ("sum", multiples)))
                for w in range(n + 1):
                    thing = ("unlike", w, due[w])
                    self.assert_is_bool(due[w] != numbers[w], counts_hold(family, n, numbers, thing))
                    thing = ("unlike", w, due[w] + 1)
                    self.assert_is_bool(False, counts_hold(family, n, numbers, thing))
        self.assertEqual(len(words), 8)

    def test_changed_certificates_hold_just_if_they_are_right(self):
        for family, n in (("two", 2), ("two", 8), ("two", 18), ("fourfold", 8), ("fourfold", 24), ("three", 4),
                          ("three", 12), ("four", 2), ("four", 6), ("four", 14)):
            chance = random.Random(f"changed {family} {n}")
            for _ in range(8):
                numbers = some_numbers(chance, family, n)
                for thing in mutants(judge_counts(family, n, numbers)):
                    self.assert_is_bool(is_right(family, n, numbers, thing), counts_hold(family, n, numbers, thing))

    def test_any_value(self):
        for family, n in (("two", 4), ("three", 4)):
            for numbers in (told_products(family, n)[0], (1, 0, 0, 0, 1), (0,) * 5):
                for thing in JUNK + (("sum",), ("sum", None), ("sum", [1]), ("sum", (True,)), ("sum", (1,)), ("sum", (0,)),
                                     ("sum", (False,)), ("sum", ()), ("unlike",), ("unlike", 2, 2), ("unlike", 4, True),
                                     ("unlike", 4, 1), ("unlike", -1, 1), ("unlike", True, 0), ("unlike", 5, 0), "sum",
                                     ("unlike", 3, 8), ("unlike", 3, "8"), ["sum", (1,)], ("sum", (1,), 1)):
                    with self.subTest(family=family, numbers=numbers, thing=thing):
                        self.assert_is_bool(is_right(family, n, numbers, thing), counts_hold(family, n, numbers, thing))

    def test_counts_from(self):
        for family, n in all_lengths():
            chance = random.Random(f"firsts {family} {n}")
            many = len(products(family, n))
            for top in (1, 100, 10 ** 59):
                firsts = tuple(chance.randint(-top, top) for _ in range(many))
                found = counts_from(family, n, firsts)
                self.assertEqual(tuple(found[GAPS[family] * b] for b in range(many)), firsts)
                self.assertEqual(fit(family, n, found)[1], found)
                self.assertEqual(found, counts_from(firsts=firsts, n=n, family=family))

    def test_bounds_and_extreme_counts(self):
        for family, n in all_lengths():
            bound = {"two": 2 * (n // 8) + 2, "fourfold": 4 * (n // 24) + 4, "three": 3 * (n // 12) + 3,
                     "four": 2 * (n // 6) + 2}[family]
            self.assertEqual(least_bound(family, n), bound)
            found = extreme_counts(family, n)
            self.assertEqual(found[0], 1)
            self.assertFalse(any(found[w] for w in range(1, bound)))
            self.assertEqual(fit(family, n, found)[1], found)
        self.assertEqual(least_bound(n=24, family="fourfold"), 8)

    def test_extreme_counts_that_are_known(self):
        self.assertEqual([extreme_counts("fourfold", 24)[w] for w in (0, 8, 12, 16, 24)], [1, 759, 2576, 759, 1])
        self.assertEqual([extreme_counts("fourfold", 48)[w] for w in (12, 16, 20, 24)], [17296, 535095, 3995376, 7681680])
        self.assertEqual([extreme_counts("three", 12)[w] for w in (6, 9, 12)], [264, 440, 24])
        self.assertEqual([extreme_counts("two", 22)[w] for w in (6, 8, 10)], [77, 330, 616])
        self.assertEqual([extreme_counts("four", 30)[w] for w in (12, 14)], [118755, 1151010])
        self.assertEqual(extreme_counts(n=6, family="four"), (1, 0, 0, 0, 45, 0, 18))


class Bars(BookCase):
    def things(self, family, n, numbers):
        due = fit(family, n, numbers)[1]
        yield from (("first",), ("first", 0), ("sum", fit(family, n, numbers)[0]), None, (), "first", ["first"], ("nought",))
        for w in range(-1, n + 2):
            yield from (("below", w), ("units", w), ("shadow", w))
            if 0 <= w <= n:
                yield from (("unlike", w, due[w]), ("unlike", w, numbers[w]))

    def test_judge_bar_and_bar_holds(self):
        words = set()
        for family, n in all_lengths():
            chance = random.Random(f"bars {family} {n}")
            for _ in range(6 if n < 24 else 2):
                numbers = some_numbers(chance, family, n)
                bars = [thing for thing in self.things(family, n, numbers) if is_right_bar(family, n, numbers, thing)]
                words.update((family, bar[0]) for bar in bars)
                found = judge_bar(family, n, numbers)
                if found is None:
                    self.assertEqual(bars, [])
                else:
                    self.assertTrue(is_right_bar(family, n, numbers, found))
                    self.assert_is_bool(True, bar_holds(family, n, numbers, found))
                for thing in self.things(family, n, numbers):
                    self.assert_is_bool(thing in bars, bar_holds(family, n, numbers, thing))
        due = {(family, word) for family in STEPS for word in ("first", "below", "unlike")}
        self.assertEqual(words, due | {("three", "units"), ("four", "units"), ("two", "shadow")})

    def test_one_bar_alone(self):
        self.assertEqual(judge_bar("two", 16, extreme_counts("two", 16))[0], "shadow")
        self.assertEqual(judge_bar("four", 2, (1, 0, 6)), ("unlike", 2, 3))
        self.assertEqual(judge_bar("four", 6, counts_from("four", 6, (1, 1)))[0], "units")
        self.assertEqual(judge_bar("three", 12, counts_from("three", 12, (1, 3)))[0], "units")
        self.assertEqual(judge_bar("fourfold", 24, counts_from("fourfold", 24, (1, -6))), ("below", 4))
        self.assertEqual(judge_bar("fourfold", 8, (2, 0, 0, 0, 28, 0, 0, 0, 2)), ("first",))
        # The first numbers of the length 72 and on are not asked for; at 48 the extreme ones are not barred.
        self.assertIsNone(judge_bar("fourfold", 48, extreme_counts("fourfold", 48)))
        self.assertEqual(judge_bar(numbers=(1, 0, 1), n=2, family="two"), None)

    def test_changed_certificates_hold_just_if_they_are_right(self):
        for family, n in (("two", 2), ("two", 8), ("two", 16), ("fourfold", 8), ("three", 4), ("three", 12), ("four", 6)):
            chance = random.Random(f"changed bars {family} {n}")
            for _ in range(10):
                numbers = some_numbers(chance, family, n)
                bars = [thing for thing in self.things(family, n, numbers) if is_right_bar(family, n, numbers, thing)]
                for thing in itertools.chain.from_iterable(map(mutants, bars[:12])):
                    self.assert_is_bool(is_right_bar(family, n, numbers, thing), bar_holds(family, n, numbers, thing))

    def test_any_value(self):
        for family, n in (("two", 2), ("four", 2)):
            for numbers in ((1, 0, 1), (0, 1, -1), (2, -1, 5)):
                for thing in JUNK + (("below", True), ("below", False), ("units", True), ("shadow", False), ("shadow", True),
                                     ("unlike", True, 0), ("unlike", 2, True), ("below",), ("units", "1"), (["first"],)):
                    with self.subTest(family=family, numbers=numbers, thing=thing):
                        self.assert_is_bool(is_right_bar(family, n, numbers, thing), bar_holds(family, n, numbers, thing))

    def test_all_quick(self):
        begun = time.perf_counter()
        for family, n in all_lengths():
            numbers = some_numbers(random.Random(n), family, n)
            judge_counts(family, n, numbers)
            judge_bar(family, n, numbers)
        self.assertLess(time.perf_counter() - begun, 5)


# Each function with what stands behind the family and the length.
FUNCTIONS = ((told_products, ()), (judge_counts, (None,)), (counts_hold, (None, None)), (counts_from, (None,)),
             (least_bound, ()), (extreme_counts, ()), (judge_bar, (None,)), (bar_holds, (None, None)))


class Wrong(BookCase):
    def test_bad_families_come_first(self):
        for family in JUNK + ("ring",):
            if family in ("two", "fourfold"):
                continue
            for function, more in FUNCTIONS:
                self.assert_bears(errors.BadFamily, family, function, family, None, *more)
                self.assert_bears(errors.BadFamily, family, function, family, 8, *more)

    def test_bad_lengths(self):
        for family in STEPS:
            for n in NO_INTEGERS + (0, -8, 49, 50, 56, 72, 10 ** 99, True, False):
                for function, more in FUNCTIONS:
                    self.assert_bears(errors.BadLength, n, function, family, n, *more)
            for n in range(1, 49):
                if n % STEPS[family]:
                    for function, more in FUNCTIONS:
                        self.assert_bears(errors.BadLength, n, function, family, n, *more)

    def test_bad_counts(self):
        for family in STEPS:
            n = 2 * STEPS[family]
            right = (1,) + (0,) * n
            wrong = JUNK + (right + (0,), right[1:], list(right), right[:-1] + (None,), right[:-1] + ("0",), (True,) + right[1:],
                            right[:-1] + (False,), right[:-1] + ((0,),), (right,), (), dict(enumerate(right)))
            for numbers in wrong:
                self.assert_bears(errors.BadCounts, numbers, judge_counts, family, n, numbers)
                self.assert_bears(errors.BadCounts, numbers, counts_hold, family, n, numbers, ("first",))
                self.assert_bears(errors.BadCounts, numbers, judge_bar, numbers=numbers, n=n, family=family)
                self.assert_bears(errors.BadCounts, numbers, bar_holds, family, n, numbers, ("first",))

    def test_bad_firsts(self):
        for family, n in all_lengths():
            many = len(products(family, n))
            for firsts in ((1,) * (many + 1), (1,) * (many - 1), [1] * many, (True,) * many, (1,) * (many - 1) + (None,), 1,
                           None, (1,) * (many - 1) + ("1",), (1,) * (many - 1) + (False,)):
                self.assert_bears(errors.BadCounts, firsts, counts_from, family, n, firsts)
        for firsts in JUNK:
            if firsts not in ((-1,), (4,), (17,), (10 ** 99,), (0, -1)):
                self.assert_bears(errors.BadCounts, firsts, counts_from, "two", 4, firsts)


if __name__ == "__main__":
    unittest.main()
