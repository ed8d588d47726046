"""Blocks: the places at which the rows of one weight have 1, and how often they meet lots of places."""

from itertools import combinations

from ownpartners.checks import check_up_to, is_integer, is_place_tuple
from ownpartners.counts import counts_of, least_counted, rows_of_weight
from ownpartners.errors import NotAlike
from ownpartners.own import check_binary
from ownpartners.partnercounts import partner_numbers
from ownpartners.tables import SIZES


def check_blocks(book, w, t):
    """Raises the errors of three values that are not a book of "two" and two integers from 0 to its length."""
    check_binary(book)
    check_up_to(book[1], w)
    check_up_to(book[1], t)


def marked_places(row):
    """The list of the places at which a row does not have 0."""
    return [place for place in range(len(row)) if row[place]]


def blocks(book, w):
    """The ascending list of the blocks of a weight; nothing is checked."""
    return sorted([tuple(marked_places(row)) for row in rows_of_weight(book, w)])


def blocks_of(book, w):
    """The ascending tuple of the blocks of a weight."""
    check_binary(book)
    check_up_to(book[1], w)
    return tuple(blocks(book, w))


def meeting_numbers(book, w, t):
    """The dict of the numbers of blocks that have all of a lot, by the lots of t places, ascending; nothing is checked.
    """
    numbers = {lot: 0 for lot in combinations(range(book[1]), t)}
    for row in rows_of_weight(book, w):
        places = marked_places(row)
        for lot in combinations(places, t):
            numbers[lot] += 1
    return numbers


def meeting_certificate(book, w, t):
    """How often all lots of t places are met, or two lots that are not met equally often; nothing is checked."""
    numbers = meeting_numbers(book, w, t)
    first = tuple(range(t))
    for lot in numbers:
        if numbers[lot] != numbers[first]:
            return ("unlike", first, lot)
    return ("alike", numbers[first])


def judge_blocks(book, w, t):
    """How often the blocks meet all lots of t places, or two lots that they do not meet equally often."""
    check_blocks(book, w, t)
    return meeting_certificate(book, w, t)


def is_lot(n, t, thing):
    """Whether any value is an ascending tuple of t out of n places."""
    return is_place_tuple(n, thing) and len(thing) == t


def blocks_hold(book, w, t, thing):
    """Whether any value is a certificate that the blocks meet all lots of t places alike, or that they do not."""
    check_blocks(book, w, t)
    if not isinstance(thing, tuple):
        return False
    if len(thing) == 2:
        return is_integer(thing[1]) and thing == meeting_certificate(book, w, t)
    if len(thing) != 3 or thing[0] != "unlike":
        return False
    _, one, other = thing
    if not is_lot(book[1], t, one) or not is_lot(book[1], t, other):
        return False
    numbers = meeting_numbers(book, w, t)
    return numbers[one] != numbers[other]


def met_and_missed(found, i, j):
    """How many blocks have all of the first i places and none of the next j ones."""
    met = [block[i:] for block in found if block[:i] == tuple(range(i))]
    return len([1 for places in met if not places or places[0] >= i + j])


def triangle(book, w, t):
    """The triangle of the blocks of a weight, which meet t places alike."""
    check_blocks(book, w, t)
    check_up_to(w, t)
    certificate = meeting_certificate(book, w, t)
    if certificate[0] == "unlike":
        raise NotAlike(certificate)
    # As all places are alike, the first ones do for all.
    found = blocks(book, w)
    return tuple([tuple([met_and_missed(found, m - j, j) for j in range(m + 1)]) for m in range(t + 1)])


def told_number(book):
    """The greatest number of places that the counts tell to be met alike, 0 if there is none."""
    check_binary(book)
    kind, n, _ = book
    counts = counts_of(book)
    d = least_counted(counts)
    if d is None:
        return 0
    others = partner_numbers(SIZES[kind], counts)
    for t in range(d - 1, 0, -1):
        if len([w for w in range(1, n - t + 1) if others[w]]) <= d - t:
            return t
    return 0
