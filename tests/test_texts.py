import itertools
import random
import unittest

from ownpartners import errors
from ownpartners.books import book_of, nought_book, whole_book
from ownpartners.texts import read_book, text_of
from tests import reference
from tests.cases import BOOKS, JUNK, BookCase


def lines_of(kind, n, rows):
    return [f"book {kind} {n}"] + ["".join(str(mark) for mark in row) for row in rows]


def first_wrong(kind, n, rows):
    """The number of the first wrong line of a text with these rows, as the heading of texts.py tells; None if none."""
    for k, row in enumerate(rows):
        if not any(row):
            return k + 2
        place, lead = reference.lead_of(row)
        if lead not in ((1, 2) if kind == "ring" else (1,)):
            return k + 2
        if k and reference.lead_of(rows[k - 1])[0] >= place:
            return k + 2
        if any(ahead[place] not in ((0, 1) if lead == 2 else (0,)) for ahead in rows[:k]):
            return k + 2
    return None if reference.is_plain(kind, n, rows) else len(rows) + 2


class Texts(BookCase):
    def assert_bad(self, at, text):
        with self.subTest(text=text):
            self.assert_bears(errors.BadText, at, read_book, text)

    def test_texts_and_books(self):
        self.assertEqual(text_of(("two", 1, ())), "book two 1")
        self.assertEqual(text_of(("ring", 3, ((2, 1, 3), (0, 2, 2)))), "book ring 3\n213\n022")
        self.assertEqual(text_of(book=whole_book("four", 16)).split("\n")[0], "book four 16")
        self.assertEqual(read_book(text="book three 2\n12"), ("three", 2, ((1, 2),)))

    def test_there_and_back(self):
        for book in BOOKS:
            self.assertEqual(text_of(book), "\n".join(lines_of(*book)))
            self.assertEqual(read_book(text_of(book)), book)
        for kind in reference.KINDS:
            chance = random.Random("texts " + kind)
            for n in range(1, 17):
                for book in (whole_book(kind, n), nought_book(kind, n),
                             book_of(kind, n, reference.some_rows(chance, kind, n, chance.randint(1, n)))):
                    self.assertEqual(text_of(book), "\n".join(lines_of(*book)))
                    self.assertEqual(read_book(text_of(book)), book)

    def test_all_texts_of_a_few_short_rows(self):
        for kind, n, most in (("two", 2, 3), ("three", 2, 2), ("four", 1, 2), ("ring", 1, 2), ("ring", 2, 2),
                              ("two", 3, 3)):
            for many in range(most + 1):
                for rows in itertools.product(reference.all_rows(kind, n), repeat=many):
                    text = "\n".join(lines_of(kind, n, rows))
                    at = first_wrong(kind, n, rows)
                    if at is None:
                        self.assertEqual(read_book(text), (kind, n, rows))
                    else:
                        self.assert_bears(errors.BadText, at, read_book, text)

    def test_three_rows_of_ring(self):
        chance = random.Random("ring texts")
        seen = {}
        for _ in range(3000):
            rows = tuple((0,) * k + (chance.choice((1, 2, 2)),)
                         + tuple(chance.choice((0, 0, 0, 1, 2)) for _ in range(3 - k)) for k in range(3))
            at = first_wrong("ring", 4, rows)
            seen[at] = seen.get(at, 0) + 1
            text = "\n".join(lines_of("ring", 4, rows))
            if at is None:
                self.assertEqual(read_book(text), ("ring", 4, rows))
            else:
                self.assert_bears(errors.BadText, at, read_book, text)
        self.assertEqual(sorted(seen, key=str), [3, 4, 5, None])

    def test_values_that_are_no_strings(self):
        for value in JUNK + (b"book two 1", ["book two 1"], ("book two 1",), BOOKS[0]):
            if not isinstance(value, str):
                self.assert_bad(0, value)
        self.assert_bears(errors.BadText, 0, read_book, text=None)

    def test_first_lines(self):
        for text in ("", "\n", "book", "book ", "book two", "book two ", "book  two 2", "book two  2", " book two 2",
                     "book two 2 ", "book two 2 2", "Book two 2", "BOOK two 2", "books two 2", "book Two 2",
                     "book ones 2", "book  2", "book fourfold 8", "book two 0", "book two 17", "book two -1",
                     "book two +2", "book two 02", "book two 2.0", "book two two", "book two 1_0", "book two 16 ",
                     "book\ttwo 2", "book two\t2", "book two 2\r\n11", "desk two 2", "two 2", "book 2 two",
                     "book two \u0662", "\nbook two 2", "book\ntwo 2", "book two 2;", "~" * 1000, "book two 99999999999"):
            self.assert_bad(1, text)
        self.assert_bad(1, "book two 0\nxx")
        for value in JUNK:
            if isinstance(value, str):
                self.assert_bad(1, value)

    def test_lines_that_tell_no_row(self):
        for line in ("", " ", "1", "111", "1 ", " 1", "12", "1x", "x1", "1 1", "(1, 1)", "1,1", "-1", "+1", "1\u0661",
                     "1\r"):
            self.assert_bad(2, "book two 2\n" + line)
            self.assert_bad(3, "book two 2\n10\n" + line)
        self.assert_bad(2, "book three 2\n13")
        self.assert_bad(2, "book four 2\n14")
        self.assert_bad(2, "book ring 2\n14")
        self.assert_bad(3, "book two 2\n11\n")
        self.assert_bad(2, "book two 2\n")
        self.assert_bad(2, "book two 2\n\n11")
        self.assert_bad(2, "book two 16\n" + "1" * 15)
        self.assert_bad(2, "book two 1\n" + "1" * 900)

    def test_rows_of_noughts(self):
        for kind in reference.KINDS:
            self.assert_bad(2, f"book {kind} 2\n00")
            self.assert_bad(3, f"book {kind} 2\n10\n00")
            self.assert_bad(4, f"book {kind} 2\n10\n01\n00")

    def test_leads(self):
        self.assert_bad(2, "book three 2\n21")
        self.assert_bad(2, "book four 2\n21")
        self.assert_bad(2, "book four 2\n31")
        self.assert_bad(2, "book ring 2\n31")
        self.assert_bad(3, "book ring 2\n10\n03")
        self.assertEqual(read_book("book ring 1\n2"), ("ring", 1, ((2,),)))

    def test_leads_that_do_not_stand_behind(self):
        self.assert_bad(3, "book two 2\n01\n10")
        self.assert_bad(3, "book two 2\n10\n10")
        self.assert_bad(3, "book two 3\n101\n111")
        self.assert_bad(4, "book two 3\n100\n001\n010")
        self.assert_bad(3, "book ring 2\n20\n10")

    def test_marks_above_a_lead(self):
        self.assert_bad(3, "book two 2\n11\n01")
        self.assert_bad(4, "book two 3\n101\n010\n001")
        self.assert_bad(3, "book three 2\n12\n01")
        self.assert_bad(3, "book ring 2\n11\n01")
        self.assert_bad(3, "book ring 2\n12\n02")
        self.assert_bad(3, "book ring 2\n13\n02")
        self.assertEqual(read_book("book ring 2\n11\n02"), ("ring", 2, ((1, 1), (0, 2))))

    def test_the_line_behind_the_last_one(self):
        self.assert_bad(3, "book ring 2\n21")
        self.assert_bad(3, "book ring 3\n210")
        self.assert_bad(4, "book ring 3\n211\n020")
        self.assert_bad(4, "book ring 3\n210\n002")
        self.assert_bad(5, "book ring 4\n2001\n0200\n0020")
        self.assertEqual(read_book("book ring 3\n211\n022"), ("ring", 3, ((2, 1, 1), (0, 2, 2))))

    def test_the_first_wrong_line_is_told(self):
        self.assert_bad(1, "book two\n00\nxx")
        self.assert_bad(2, "book two 2\n00\nxx")
        self.assert_bad(3, "book two 2\n10\nxx\n00")
        self.assert_bad(3, "book ring 3\n210\n000\n021")

    def test_bad_books(self):
        for book in JUNK:
            self.assert_bears(errors.BadBook, book, text_of, book)
        wrong = ["two", 1, ()]
        self.assert_bears(errors.BadBook, wrong, text_of, book=wrong)


if __name__ == "__main__":
    unittest.main()
