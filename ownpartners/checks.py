"""What is asked of integers, kinds, lengths, places and numbers, whatever a caller passes."""

from ownpartners.errors import BadCounts, BadKind, BadLength, BadNumber
from ownpartners.tables import KINDS

MOST_PLACES = 16

# The greatest length for which sums by weight are asked for.
MOST_DEGREE = 48


def is_integer(thing):
    """Whether any value is an integer; True and False are none."""
    return isinstance(thing, int) and not isinstance(thing, bool)


def is_integer_tuple(many, thing):
    """Whether any value is a tuple of so many integers."""
    return isinstance(thing, tuple) and len(thing) == many and all(is_integer(number) for number in thing)


def is_kind(thing):
    """Whether any value is a kind."""
    return isinstance(thing, str) and thing in KINDS


def is_length(thing):
    """Whether any value is the length of a row."""
    return is_integer(thing) and 1 <= thing <= MOST_PLACES


def is_place_tuple(n, thing):
    """Whether any value is an ascending tuple of places of rows of the length n."""
    if not isinstance(thing, tuple):
        return False
    if not all(is_integer(place) and 0 <= place < n for place in thing):
        return False
    return all(thing[k - 1] < thing[k] for k in range(1, len(thing)))


def check_kind(kind):
    """Raises BadKind for any value that is no kind."""
    if not is_kind(kind):
        raise BadKind(kind)


def check_length(n):
    """Raises BadLength for any value that is no length."""
    if not is_length(n):
        raise BadLength(n)


def check_from_nought(thing):
    """Raises BadNumber for any value that is no integer from 0 on."""
    if not is_integer(thing) or thing < 0:
        raise BadNumber(thing)


def check_up_to(most, thing):
    """Raises BadNumber for any value that is no integer from 0 to the most."""
    if not is_integer(thing) or not 0 <= thing <= most:
        raise BadNumber(thing)


def check_integers(many, thing):
    """Raises BadCounts for any value that is no tuple of so many integers."""
    if not is_integer_tuple(many, thing):
        raise BadCounts(thing)
