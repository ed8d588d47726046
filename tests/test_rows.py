import itertools
import random
import unittest

from ownpartners import errors
from ownpartners.rows import added, euclid_weight, is_row, lee_weight, meeting, multiple, weight_of
from tests import reference
from tests.cases import JUNK, BookCase

SMALL = (("two", 4), ("three", 3), ("four", 2), ("ring", 2))


def random_pairs(kind, number=60):
    chance = random.Random(kind)
    for _ in range(number):
        yield reference.some_rows(chance, kind, chance.randint(1, 16), 2)


class Rows(BookCase):
    def test_is_row(self):
        for kind in reference.KINDS:
            q = reference.SIZES[kind]
            for row in ((0,), (1,), (q - 1,), (0,) * 16, (q - 1,) * 16, tuple(range(q))):
                self.assert_is_bool(True, is_row(kind, row))
            for row in ((), (0,) * 17, (q,), (0, q), (-1,), (0, -1), [0], [0, 1], (0, True), (False,), (0, "0"),
                        (0, None), ((0,),), (0, [0])):
                with self.subTest(kind=kind, row=row):
                    self.assert_is_bool(False, is_row(kind, row))
        self.assert_is_bool(True, is_row(thing=(1, 3), kind="ring"))

    def test_no_value_of_the_wrong_sort_is_a_row(self):
        for kind in reference.KINDS:
            for value in JUNK:
                self.assert_is_bool(False, is_row(kind, value))

    def test_sums_meetings_and_multiples_of_all_small_rows(self):
        for kind, n in SMALL:
            for x, y in itertools.product(reference.all_rows(kind, n), repeat=2):
                self.assertEqual(added(kind, x, y), reference.add_rows(kind, x, y))
                self.assertEqual(meeting(kind, x, y), reference.meet(kind, x, y))
            for x in reference.all_rows(kind, n):
                for mark in range(reference.SIZES[kind]):
                    self.assertEqual(multiple(kind, mark, x), reference.times_row(kind, mark, x))

    def test_sums_meetings_and_multiples_up_to_16_places(self):
        for kind in reference.KINDS:
            for x, y in random_pairs(kind):
                self.assertEqual(added(kind, x, y), reference.add_rows(kind, x, y))
                self.assertEqual(meeting(kind, x, y), reference.meet(kind, x, y))
                for mark in range(reference.SIZES[kind]):
                    self.assertEqual(multiple(kind, mark, y), reference.times_row(kind, mark, y))

    def test_meetings_the_other_way_are_turned(self):
        for kind in reference.KINDS:
            for x, y in random_pairs(kind):
                self.assertEqual(meeting(kind, y, x), reference.turned(kind, meeting(kind, x, y)))
        self.assertEqual([meeting("four", (2,), (1,)), meeting("four", (1,), (2,))], [2, 3])

    def test_weights(self):
        for kind in reference.KINDS:
            for x, _ in random_pairs(kind):
                self.assertEqual(weight_of(kind, x), reference.weight(x))
        for x, _ in random_pairs("ring"):
            self.assertEqual(lee_weight(x), reference.lee(x))
            self.assertEqual(euclid_weight(x), reference.euclid(x))
        self.assertEqual([weight_of("three", (0,) * 16), weight_of("three", (2,) * 16)], [0, 16])
        self.assertEqual([lee_weight((mark,)) for mark in range(4)], [0, 1, 2, 1])
        self.assertEqual([euclid_weight((mark,)) for mark in range(4)], [0, 1, 4, 1])
        self.assertEqual([lee_weight((2,) * 16), euclid_weight((2,) * 16)], [32, 64])

    def test_what_a_row_meets_itself_in(self):
        for kind, q in (("two", 2), ("three", 3), ("four", 2)):
            for x, _ in random_pairs(kind):
                self.assertEqual(meeting(kind, x, x), weight_of(kind, x) % q)
        for x, _ in random_pairs("ring"):
            self.assertEqual(meeting("ring", x, x), euclid_weight(x) % 4)

    def test_results_are_tuples(self):
        self.assertIs(type(added("ring", (1, 2), (3, 3))), tuple)
        self.assertIs(type(multiple("ring", 2, (1, 2))), tuple)

    def test_calls_by_name(self):
        self.assertEqual(added(other=(1, 1, 1), one=(1, 2, 3), kind="four"), (0, 3, 2))
        self.assertEqual(meeting(other=(1,), one=(2,), kind="four"), 2)
        self.assertEqual(multiple(row=(1, 2, 3), mark=2, kind="four"), (2, 3, 1))
        self.assertEqual(weight_of(row=(1, 0, 3), kind="ring"), 2)
        self.assertEqual([lee_weight(row=(1, 2, 3)), euclid_weight(row=(1, 2, 3))], [4, 6])


class WrongRows(BookCase):
    def test_bad_kinds_come_first(self):
        for kind in JUNK:
            if kind == "two":
                continue
            with self.subTest(kind=kind):
                self.assert_bears(errors.BadKind, kind, is_row, kind, (1,))
                self.assert_bears(errors.BadKind, kind, is_row, kind, None)
                self.assert_bears(errors.BadKind, kind, added, kind, None, [])
                self.assert_bears(errors.BadKind, kind, meeting, kind, (1, 1), (1,))
                self.assert_bears(errors.BadKind, kind, multiple, kind, 9, ())
                self.assert_bears(errors.BadKind, kind, weight_of, kind, ())

    def test_bad_rows(self):
        for kind in reference.KINDS:
            for row in JUNK + ((), (0,) * 17, (reference.SIZES[kind],), (0, True)):
                with self.subTest(kind=kind, row=row):
                    self.assert_bears(errors.BadRow, row, added, kind, row, (1,))
                    self.assert_bears(errors.BadRow, row, added, kind, (1,), row)
                    self.assert_bears(errors.BadRow, row, meeting, kind, row, (1,))
                    self.assert_bears(errors.BadRow, row, meeting, kind, (1,), row)
                    self.assert_bears(errors.BadRow, row, multiple, kind, 1, row)
                    self.assert_bears(errors.BadRow, row, weight_of, kind, row)

    def test_bad_rows_of_ring(self):
        for row in JUNK + ((), (0,) * 17, (4,), (0, True)):
            with self.subTest(row=row):
                self.assert_bears(errors.BadRow, row, lee_weight, row)
                self.assert_bears(errors.BadRow, row, euclid_weight, row=row)

    def test_rows_of_another_kind_are_bad(self):
        self.assert_bears(errors.BadRow, (0, 2), added, "two", (0, 2), (1, 1))
        self.assert_bears(errors.BadRow, (3, 1), meeting, "three", (1, 1), (3, 1))
        self.assert_bears(errors.BadRow, (3, 1), multiple, "three", 2, (3, 1))

    def test_the_first_bad_row_is_borne(self):
        one, other = [1], [2]
        for function in (added, meeting):
            self.assert_bears(errors.BadRow, one, function, "ring", one, other)
            self.assert_bears(errors.BadRow, one, function, other=other, one=one, kind="ring")
            self.assert_bears(errors.BadRow, other, function, "ring", (1, 1, 1), other)

    def test_other_lengths(self):
        for function in (added, meeting):
            for kind in reference.KINDS:
                short, long = (1, 0), (1, 0, 1)
                self.assert_bears(errors.OtherLength, long, function, kind, short, long)
                self.assert_bears(errors.OtherLength, short, function, kind, long, short)

    def test_bad_marks_come_ahead_of_bad_rows(self):
        for mark in JUNK:
            self.assert_bears(errors.BadMark, mark, multiple, "ring", mark, (1, 2))
            self.assert_bears(errors.BadMark, mark, multiple, "ring", mark, None)
        self.assert_bears(errors.BadMark, 2, multiple, "two", 2, (2,))
        self.assert_bears(errors.BadMark, 4, multiple, row=None, mark=4, kind="four")


if __name__ == "__main__":
    unittest.main()
