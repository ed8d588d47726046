"""Families, and the lengths for which own partners of them are there."""

from ownpartners.errors import BadFamily

# Own partners of a family are there just for the multiples of this length.
STEPS = {"two": 2, "fourfold": 8, "three": 4, "four": 2, "ring": 1}


def check_family(thing):
    """Raises BadFamily for any value that is no family."""
    if not isinstance(thing, str) or thing not in STEPS:
        raise BadFamily(thing)


def check_counted_family(thing):
    """Raises BadFamily for any value that is no family, and for "ring"."""
    check_family(thing)
    if thing == "ring":
        raise BadFamily(thing)


def are_there(family, n):
    """Whether own partners of a family are there for a length."""
    return n % STEPS[family] == 0


def kind_of(family):
    """The kind of the own partners of a family."""
    return "two" if family == "fourfold" else family
