"""Whole lists: of each family and length, own partners that are unlike, and to one of which each one is alike."""

from math import gcd

from ownpartners.books import is_book, nought_book
from ownpartners.changes import changes_number, is_change, led
from ownpartners.checks import check_length, is_integer, is_integer_tuple
from ownpartners.errors import BadBooks, NoOwn
from ownpartners.families import are_there, check_counted_family, kind_of
from ownpartners.growing import fourfold_through, own_through
from ownpartners.likeness import are_alike, change_between
from ownpartners.neighbours import fourfold_neighbours_of, neighbours_of
from ownpartners.own import is_fourfold, is_own
from ownpartners.ownlikeness import likeness_number
from ownpartners.ownnumbers import own_number


def check_owned(family, n):
    """Raises the errors of two values that are not a family and a length for which own partners of it are there."""
    check_counted_family(family)
    check_length(n)
    if not are_there(family, n):
        raise NoOwn()


def is_own_of(family, n, thing):
    """Whether any value is an own partner of a family and a length."""
    if not is_own(thing) or thing[0] != kind_of(family) or thing[1] != n:
        return False
    return family != "fourfold" or is_fourfold(thing)


def check_listed(family, n, books):
    """Raises the errors of three values that are not a family, a length, and a tuple of own partners of these."""
    check_owned(family, n)
    if not isinstance(books, tuple) or not all(is_own_of(family, n, book) for book in books):
        raise BadBooks(books)


def without_divisor(top, bottom):
    """A fraction without a common divisor above 1, as a pair."""
    divisor = gcd(top, bottom)
    return (top // divisor, bottom // divisor)


def sum_of_shares(numbers):
    """The fraction that is the sum of 1 divided by each of some numbers."""
    total = (0, 1)
    for number in numbers:
        total = without_divisor(total[0] * number + total[1], total[1] * number)
    return total


def due_sum(family, n):
    """The whole sum; nothing is checked."""
    return without_divisor(own_number(family, n), changes_number(kind_of(family), n))


def whole_sum(family, n):
    """The fraction that is the sum of the shares of a whole list."""
    check_owned(family, n)
    return due_sum(family, n)


def some_own(family, n):
    """An own partner of a family and a length."""
    nought = nought_book(kind_of(family), n)
    return fourfold_through(nought) if family == "fourfold" else own_through(nought)


def neighbours_within(family, book):
    """The tuple of the neighbours of an own partner that are of the family, too."""
    return fourfold_neighbours_of(book) if family == "fourfold" else neighbours_of(book)


def lacking(family, n, books):
    """An own partner of the family and length that is alike to none of some; None if there is none."""
    if not books:
        return some_own(family, n)
    # Ways from neighbour to neighbour lead to every own partner. So if some are alike to none of these books, one of
    # them is a neighbour of a book that is alike to one of these, and then one alike to it is a neighbour of that one.
    for book in books:
        for one in neighbours_within(family, book):
            if not any(are_alike(one, other) for other in books):
                return one
    return None


def whole_list(family, n):
    """A whole list."""
    check_owned(family, n)
    books, numbers = (), ()
    while sum_of_shares(numbers) != due_sum(family, n):
        book = lacking(family, n, books)
        books = books + (book,)
        numbers = numbers + (likeness_number(book),)
    return books


def alike_pair(books):
    """Two positions, the lesser one first, and a change that leads the one book to the other; None if no two books
    are alike."""
    for j in range(len(books)):
        for i in range(j):
            change = change_between(books[i], books[j])
            if change is not None:
                return (i, j, change)
    return None


def judge_list(family, n, books):
    """The certificate that own partners are a whole list, or that two of them are alike, or that one is lacking."""
    check_listed(family, n, books)
    pair = alike_pair(books)
    if pair is not None:
        return ("twice",) + pair
    numbers = tuple([likeness_number(book) for book in books])
    if sum_of_shares(numbers) == due_sum(family, n):
        return ("whole", numbers)
    return ("lacks", lacking(family, n, books))


def whole_holds(family, n, books, thing):
    """Whether any value tells the numbers of likenesses of books that are a whole list."""
    if not is_integer_tuple(len(books), thing) or thing != tuple([likeness_number(book) for book in books]):
        return False
    return sum_of_shares(thing) == due_sum(family, n) and alike_pair(books) is None


def twice_holds(books, i, j, change):
    """Whether three values are two positions, the lesser one first, and a change that leads the one book to the
    other."""
    if not is_integer(i) or not is_integer(j) or not 0 <= i < j < len(books):
        return False
    return is_change(books[i][0], books[i][1], change) and led(books[i], change) == books[j]


def lacks_holds(family, n, books, thing):
    """Whether any value is an own partner of the family and length that is alike to none of some."""
    return is_own_of(family, n, thing) and not any(are_alike(thing, book) for book in books)


def list_holds(family, n, books, thing):
    """Whether any value is a certificate that own partners are a whole list, or that they are none."""
    check_listed(family, n, books)
    if not isinstance(thing, tuple):
        return False
    if len(thing) == 4 and thing[0] == "twice":
        return twice_holds(books, thing[1], thing[2], thing[3])
    if len(thing) != 2:
        return False
    if thing[0] == "whole":
        return whole_holds(family, n, books, thing[1])
    return thing[0] == "lacks" and lacks_holds(family, n, books, thing[1])


def share_sum(books):
    """The fraction that is the sum of the shares of some books."""
    if not isinstance(books, tuple) or not all(is_book(book) for book in books):
        raise BadBooks(books)
    return sum_of_shares([likeness_number(book) for book in books])
