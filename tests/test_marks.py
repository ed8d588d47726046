import unittest

from ownpartners import errors
from ownpartners.marks import inverse_of, product_of, size_of, sum_of, turned_mark, units_of
from tests import reference
from tests.cases import JUNK, BookCase

# The tables of [1.1], as they stand there.
FOUR_SUMS = ((0, 1, 2, 3), (1, 0, 3, 2), (2, 3, 0, 1), (3, 2, 1, 0))
FOUR_PRODUCTS = ((0, 0, 0, 0), (0, 1, 2, 3), (0, 2, 3, 1), (0, 3, 1, 2))


def pairs(kind):
    return [(a, b) for a in range(reference.SIZES[kind]) for b in range(reference.SIZES[kind])]


class Marks(BookCase):
    def test_sizes_and_units(self):
        self.assertEqual([size_of(kind) for kind in ("two", "three", "four", "ring")], [2, 3, 4, 4])
        self.assertEqual([units_of(kind) for kind in ("two", "three", "four", "ring")],
                         [(1,), (1, 2), (1, 2, 3), (1, 3)])

    def test_tables_of_four(self):
        for a, b in pairs("four"):
            self.assertEqual(sum_of("four", a, b), FOUR_SUMS[a][b])
            self.assertEqual(product_of("four", a, b), FOUR_PRODUCTS[a][b])

    def test_remainders_of_the_other_kinds(self):
        for kind, q in (("two", 2), ("three", 3), ("ring", 4)):
            for a, b in pairs(kind):
                self.assertEqual(sum_of(kind, a, b), (a + b) % q)
                self.assertEqual(product_of(kind, a, b), a * b % q)

    def test_units_are_the_marks_with_an_inverse(self):
        for kind in reference.KINDS:
            with_inverse = {a for a, b in pairs(kind) if product_of(kind, a, b) == 1}
            self.assertEqual(units_of(kind), tuple(sorted(with_inverse)))
            for unit in units_of(kind):
                self.assertIn(inverse_of(kind, unit), units_of(kind))
                self.assertEqual(product_of(kind, unit, inverse_of(kind, unit)), 1)

    def test_turned_marks(self):
        self.assertEqual([turned_mark("four", mark) for mark in range(4)], [0, 1, 3, 2])
        for kind in ("two", "three", "ring"):
            for mark in range(size_of(kind)):
                self.assertEqual(turned_mark(kind, mark), mark)

    def test_the_inverse_is_the_turned_unit_or_the_unit(self):
        for unit in units_of("four"):
            self.assertEqual(inverse_of("four", unit), turned_mark("four", unit))
        for kind in ("two", "three", "ring"):
            for unit in units_of(kind):
                self.assertEqual(inverse_of(kind, unit), unit)

    def test_calls_by_name(self):
        self.assertEqual(size_of(kind="ring"), 4)
        self.assertEqual(units_of(kind="ring"), (1, 3))
        self.assertEqual(sum_of(other=3, one=2, kind="four"), 1)
        self.assertEqual(product_of(other=3, one=3, kind="four"), 2)
        self.assertEqual(turned_mark(mark=3, kind="four"), 2)
        self.assertEqual(inverse_of(mark=3, kind="four"), 2)


class WrongMarks(BookCase):
    def test_bad_kinds_come_first(self):
        for kind in JUNK:
            if kind == "two":
                continue
            with self.subTest(kind=kind):
                self.assert_bears(errors.BadKind, kind, size_of, kind)
                self.assert_bears(errors.BadKind, kind, units_of, kind=kind)
                self.assert_bears(errors.BadKind, kind, sum_of, kind, 9, 9)
                self.assert_bears(errors.BadKind, kind, product_of, kind, [], [])
                self.assert_bears(errors.BadKind, kind, turned_mark, kind, None)
                self.assert_bears(errors.BadKind, kind, inverse_of, kind, 0)

    def test_bad_marks(self):
        for kind in reference.KINDS:
            for mark in JUNK + (reference.SIZES[kind],):
                with self.subTest(kind=kind, mark=mark):
                    self.assert_bears(errors.BadMark, mark, sum_of, kind, mark, 0)
                    self.assert_bears(errors.BadMark, mark, sum_of, kind, 1, mark)
                    self.assert_bears(errors.BadMark, mark, product_of, kind, mark, 0)
                    self.assert_bears(errors.BadMark, mark, product_of, kind, 1, mark)
                    self.assert_bears(errors.BadMark, mark, turned_mark, kind, mark)
                    self.assert_bears(errors.BadMark, mark, inverse_of, kind, mark)

    def test_the_first_bad_mark_is_borne(self):
        for function in (sum_of, product_of):
            one, other = ["one"], ["other"]
            self.assert_bears(errors.BadMark, one, function, "three", one, other)
            self.assert_bears(errors.BadMark, one, function, other=other, one=one, kind="three")

    def test_marks_of_a_larger_kind_are_bad(self):
        self.assert_bears(errors.BadMark, 2, sum_of, "two", 1, 2)
        self.assert_bears(errors.BadMark, 3, product_of, "three", 3, 0)
        self.assert_bears(errors.BadMark, 4, turned_mark, "ring", 4)

    def test_bools_are_no_marks(self):
        for kind in reference.KINDS:
            for mark in (True, False):
                self.assert_bears(errors.BadMark, mark, inverse_of, kind, mark)
                self.assert_bears(errors.BadMark, mark, sum_of, kind, mark, 1)

    def test_marks_that_are_no_units_have_no_inverse(self):
        for kind in reference.KINDS:
            for mark in range(size_of(kind)):
                if mark not in units_of(kind):
                    self.assert_bears(errors.BadMark, mark, inverse_of, kind, mark)
        self.assert_bears(errors.BadMark, 2, inverse_of, mark=2, kind="ring")


if __name__ == "__main__":
    unittest.main()
