"""Alike books: those that a change leads one to the other."""

from ownpartners.beginnings import TwoBooks, change_from, first_beginning, judged, tree_holds
from ownpartners.books import check_two_books
from ownpartners.changes import is_change, led


def change_between(one, other):
    """A change that leads a book to another one of its kind and length; None if there is none. Nothing is checked."""
    books = TwoBooks(one, other)
    return change_from(books, first_beginning(books))


def are_alike(one, other):
    """Whether a change leads a book to another one."""
    check_two_books(one, other)
    return change_between(one, other) is not None


def judge_alike(one, other):
    """A change that leads a book to another one, or the tree of cases that shows that there is none."""
    check_two_books(one, other)
    books = TwoBooks(one, other)
    return judged(books, first_beginning(books))


def alike_holds(one, other, thing):
    """Whether any value is a certificate that two books are alike, or that they are not."""
    check_two_books(one, other)
    if not isinstance(thing, tuple) or len(thing) != 2:
        return False
    word, proof = thing
    if word == "change":
        return is_change(one[0], one[1], proof) and led(one, proof) == other
    if word == "cases":
        books = TwoBooks(one, other)
        return tree_holds(books, first_beginning(books), proof)
    return False
