"""Books that meet in nought, own partners, and fourfold books, with their certificates."""

from ownpartners.books import check_book, has_row, is_book
from ownpartners.checks import check_length
from ownpartners.combining import partner_of
from ownpartners.errors import NotFourfold, NotNought, NotOwn, OtherKind
from ownpartners.families import are_there, check_family
from ownpartners.plainbasis import makes
from ownpartners.tables import row_meeting, row_sum, row_weight


def unmet_pair(book):
    """Two rows of the basis, perhaps one twice, whose meeting is not 0; None if there are none."""
    kind, _, basis = book
    for k in range(len(basis)):
        for row in basis[:k + 1]:
            if row_meeting(kind, row, basis[k]):
                return (row, basis[k])
    return None


def outside_row(book):
    """A row of the partner that is not in the book; None if there is none."""
    for row in partner_of(book)[2]:
        if not makes(book[0], book[2], row):
            return row
    return None


def unfourfold_row(book):
    """A row of a book of "two" whose weight is not divisible by 4; None if there is none."""
    basis = book[2]
    for row in basis:
        if row_weight(row) % 4:
            return row
    for k in range(len(basis)):
        for row in basis[:k]:
            both = row_sum("two", row, basis[k])
            if row_weight(both) % 4:
                return both
    # All weights in the basis are divisible by 4, and all meetings are 0: so each sum has such a weight, too.
    return None


def is_nought(thing):
    """Whether any value is a book that meets in nought."""
    return is_book(thing) and unmet_pair(thing) is None


def is_own(thing):
    """Whether any value is an own partner."""
    return is_book(thing) and partner_of(thing) == thing


def is_fourfold(thing):
    """Whether any value is a fourfold book."""
    return is_book(thing) and thing[0] == "two" and unfourfold_row(thing) is None


def meet_holds(book, thing):
    """Whether any value tells two rows of a book whose meeting is not 0."""
    if not isinstance(thing, tuple) or len(thing) != 3 or thing[0] != "meet":
        return False
    _, one, other = thing
    return has_row(book, one) and has_row(book, other) and row_meeting(book[0], one, other) != 0


def outside_holds(book, thing):
    """Whether any value tells a row that is not in a book and meets every row of it in 0."""
    if not isinstance(thing, tuple) or len(thing) != 2 or thing[0] != "outside":
        return False
    return has_row(partner_of(book), thing[1]) and not has_row(book, thing[1])


def judge_nought(book):
    """The certificate that a book meets in nought, or two of its rows that do not."""
    check_book(book)
    pair = unmet_pair(book)
    return ("nought",) if pair is None else ("meet",) + pair


def nought_holds(book, thing):
    """Whether any value is a certificate that a book meets in nought, or that it does not."""
    check_book(book)
    if thing == ("nought",):
        return is_nought(book)
    return meet_holds(book, thing)


def judge_own(book):
    """The certificate that a book is an own partner, or what shows that it is none."""
    check_book(book)
    pair = unmet_pair(book)
    if pair is not None:
        return ("meet",) + pair
    row = outside_row(book)
    return ("own",) if row is None else ("outside", row)


def own_holds(book, thing):
    """Whether any value is a certificate that a book is an own partner, or that it is none."""
    check_book(book)
    if thing == ("own",):
        return is_own(book)
    return meet_holds(book, thing) or outside_holds(book, thing)


def check_binary(book):
    """Raises the errors of a value that is no book of "two"."""
    check_book(book)
    if book[0] != "two":
        raise OtherKind(book)


def judge_fourfold(book):
    """The certificate that a book of "two" is fourfold, or a row whose weight is not divisible by 4."""
    check_binary(book)
    row = unfourfold_row(book)
    return ("fourfold",) if row is None else ("weight", row)


def fourfold_holds(book, thing):
    """Whether any value is a certificate that a book of "two" is fourfold, or that it is not."""
    check_binary(book)
    if thing == ("fourfold",):
        return is_fourfold(book)
    if not isinstance(thing, tuple) or len(thing) != 2 or thing[0] != "weight":
        return False
    return has_row(book, thing[1]) and row_weight(thing[1]) % 4 != 0


def has_own(family, n):
    """Whether own partners of a family are there for a length."""
    check_family(family)
    check_length(n)
    return are_there(family, n)


def check_no_ring(book):
    """Raises the errors of a value that is no book of "two", "three" or "four"."""
    check_book(book)
    if book[0] == "ring":
        raise OtherKind(book)


def check_nought(book):
    """Raises the errors of a value that is no book that meets in nought."""
    certificate = judge_nought(book)
    if certificate[0] == "meet":
        raise NotNought(certificate)


def check_own(book):
    """Raises the errors of a value that is no own partner."""
    certificate = judge_own(book)
    if certificate[0] != "own":
        raise NotOwn(certificate)


def check_fourfold(book):
    """Raises the errors of a value that is no fourfold book."""
    certificate = judge_fourfold(book)
    if certificate[0] == "weight":
        raise NotFourfold(certificate)
