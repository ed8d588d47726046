"""What the tests share: values of every sort, and the test of an error."""

import unittest

from ownpartners import errors
from ownpartners.desks import Desk

BORNE = {
    errors.BadText: "at", errors.NotWhole: "at", errors.TooMany: "most", errors.NotNought: "certificate",
    errors.NotOwn: "certificate", errors.NotFourfold: "certificate", errors.NotAlike: "certificate",
    errors.Unkept: "claim",
}

TETRA = ("three", 4, ((1, 0, 1, 1), (0, 1, 1, 2)))
RING = ("ring", 4, ((1, 1, 1, 1), (0, 2, 0, 2), (0, 0, 2, 2)))
PAIRS = ("two", 4, ((1, 1, 0, 0), (0, 0, 1, 1)))
HEXA = ("four", 6, ((1, 0, 0, 1, 2, 2), (0, 1, 0, 2, 1, 2), (0, 0, 1, 2, 2, 1)))
BOOKS = (TETRA, RING, PAIRS, HEXA, ("two", 1, ()), ("ring", 2, ((2, 1), (0, 2))), ("four", 1, ((1,),)))


def nested(deep):
    value = 0
    for _ in range(deep):
        value = (value,)
    return value


DESK = Desk(PAIRS)
DESK.claim(("own",))

# No kind, no mark, no length, no row, no tuple of rows, no book, no tuple of places and no tuple of numbers.
JUNK = (
    None, True, False, -1, -7, 17, 99, 10 ** 99, -10 ** 99, "", " ", "ring ", "Two", "fourfold", "\n", "0", "1", "two 2",
    "~" * 1000, [], [0], [1, 0], [[1, 0]], ["two", 1, []], {}, {0: 1}, {"two": "two"}, (None,), (True,), (False, True),
    (1.5,), ((),), (((),),), ([1, 0],), (-1,), (0, -1), (4,), (17,), (10 ** 99,), ("two",), ("two", 2),
    ("two", 2, [(1, 0)]), ("two", 2, ([1, 0],)), ("two", 2, ((1, 0), None)), ("two", True, ((1,),)), ("two", 2, ((1,),)),
    ("two", 2, ((1, 0), (1, 0))), ("two", 2, ((0, 0),)), ("two", 0, ()), ("two", 17, ()), ("ones", 2, ()),
    ("two", 2, ((True, 0),)), ("two", 2, (), ()), (["two"], 2, ()), ("three", 2, ((2, 0),)), ("ring", 2, ((2, 1),)),
    nested(12), [nested(11)], (None,) * 2000, [0] * 1999, {k: None for k in range(900)}, "two", (1, "0"), ("1", "0"),
    DESK, (DESK,), [DESK], {"two": DESK}, ("two", 2, DESK), ("two", 2, (DESK,)), ("two", DESK, ()), (DESK, 2, ()),
)

# Whole numbers, bools and strings alone, for arguments for which some whole numbers are right.
NO_INTEGERS = tuple(value for value in JUNK if not isinstance(value, int) or isinstance(value, bool))


def same(one, other):
    """Whether two values are equal down to the sorts of their parts, so that True is no 1 and a list no tuple."""
    if type(one) is not type(other):
        return False
    if isinstance(one, (tuple, list)):
        return len(one) == len(other) and all(map(same, one, other))
    return one == other


def plain(value):
    """The value anew, with desks as what can be read of them, so that it is known later if it was changed."""
    if isinstance(value, Desk):
        return ("desk", value.book(), value.claims(), value.undoable(), value.redoable())
    if isinstance(value, (tuple, list)):
        return type(value)([plain(part) for part in value])
    if isinstance(value, dict):
        return {key: plain(part) for key, part in value.items()}
    return value


def other_numbers(number):
    yield from (number + 1, number - 1, -number, str(number), None, (number,))
    if number in (0, 1):
        yield bool(number)


def other_words(word):
    yield from (word + " ", word.upper(), word[:-1], [word], (word,), None, 1, "cases", "change", "clash", "nought", "own")


def other_tuples(parts):
    yield from (list(parts), parts + (0,), parts + parts[-1:], (parts,), None, 0, "", ())
    for k in range(len(parts)):
        yield parts[:k] + parts[k + 1:]
    for k in range(1, len(parts)):
        yield parts[:k - 1] + (parts[k], parts[k - 1]) + parts[k + 1:]


def mutants(value):
    """The value with one part of it changed, at every depth: left out, put in, exchanged, or replaced."""
    if isinstance(value, bool) or value is None:
        yield from (0, 1, None, True, False)
    elif isinstance(value, int):
        yield from other_numbers(value)
    elif isinstance(value, str):
        yield from other_words(value)
    elif isinstance(value, tuple):
        yield from other_tuples(value)
        for k, part in enumerate(value):
            for changed in mutants(part):
                yield value[:k] + (changed,) + value[k + 1:]


class BookCase(unittest.TestCase):
    def assert_bears(self, error, value, function, *arguments, **named):
        """The call raises just this error, with this very value, and changes nothing that it was passed."""
        before = plain((arguments, named))
        with self.assertRaises(errors.BookError) as caught:
            function(*arguments, **named)
        self.assertIs(type(caught.exception), error)
        borne = getattr(caught.exception, BORNE.get(error, "thing"))
        if error in BORNE:
            self.assertEqual(borne, value)
            self.assertIs(type(borne), type(value))
        else:
            self.assertIs(borne, value)
        self.assertEqual(plain((arguments, named)), before)

    def assert_bare(self, error, function, *arguments, **named):
        """The call raises just this error, which bears nothing."""
        with self.assertRaises(errors.BookError) as caught:
            function(*arguments, **named)
        self.assertIs(type(caught.exception), error)
        self.assertEqual(vars(caught.exception), {})

    def check_certificate(self, error, function, book, is_right, *arguments, **named):
        """The call raises just this error, with a certificate that is right."""
        with self.assertRaises(errors.BookError) as caught:
            function(book, *arguments, **named)
        self.assertIs(type(caught.exception), error)
        self.assertEqual(list(vars(caught.exception)), ["certificate"])
        self.assertTrue(is_right(caught.exception.certificate), caught.exception.certificate)

    def assert_is_bool(self, due, got):
        self.assertIs(type(got), bool)
        self.assertEqual(got, due)
