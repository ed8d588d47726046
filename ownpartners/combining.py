"""Books from books: joined, shared, laid side by side, thinned, shortened; partners."""

from ownpartners.books import check_book, check_one_kind, check_two_books
from ownpartners.checks import MOST_PLACES, is_place_tuple
from ownpartners.errors import BadPlaces, TooLong
from ownpartners.plainbasis import basis_behind, plain_basis
from ownpartners.tables import TURNED


def joined(one, other):
    """The book that the rows of two books make."""
    check_two_books(one, other)
    kind, n, basis = one
    return (kind, n, plain_basis(kind, basis + other[2]))


def shared(one, other):
    """The book of the rows that are in both books."""
    check_two_books(one, other)
    kind, n, basis = one
    # A sum of these rows begins with n noughts just if its rows of the one book and of the other one take each
    # other away; then the row of the one stands behind the noughts.
    twins = [row + row for row in basis] + [row + (0,) * n for row in other[2]]
    return (kind, n, basis_behind(kind, n, twins))


def partner_of(book):
    """The book of all rows that meet each row of a book in 0."""
    check_book(book)
    kind, n, basis = book
    turned = TURNED[kind]
    # Ahead of each row stands in what it meets the rows of the basis.
    marked = [tuple([turned[row[k]] for row in basis]) + (0,) * k + (1,) + (0,) * (n - k - 1) for k in range(n)]
    return (kind, n, basis_behind(kind, len(basis), marked))


def beside(one, other):
    """The book of the rows of a book, each followed by a row of another one."""
    check_one_kind(one, other)
    kind, n, basis = one
    m = other[1]
    if n + m > MOST_PLACES:
        raise TooLong()
    return (kind, n + m, tuple([row + (0,) * m for row in basis] + [(0,) * n + row for row in other[2]]))


def check_some_places(n, places):
    """Raises BadPlaces for any value that is no ascending tuple of places, or has all n of them."""
    if not is_place_tuple(n, places) or len(places) == n:
        raise BadPlaces(places)


def other_places(n, places):
    """The list of the places, out of n, that are not among the told ones."""
    return [place for place in range(n) if place not in places]


def thinned(book, places):
    """The book of the rows without their marks at some places."""
    check_book(book)
    kind, n, basis = book
    check_some_places(n, places)
    kept = other_places(n, places)
    return (kind, len(kept), plain_basis(kind, [tuple([row[place] for place in kept]) for row in basis]))


def shortened(book, places):
    """The book of the rows that have 0 at some places, without these marks."""
    check_book(book)
    kind, n, basis = book
    check_some_places(n, places)
    kept = other_places(n, places)
    order = list(places) + kept
    return (kind, len(kept), basis_behind(kind, len(places), [tuple([row[place] for place in order]) for row in basis]))
