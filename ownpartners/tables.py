"""How marks and rows are reckoned with. Nothing is checked here, and rows may have any number of marks."""

KINDS = ("two", "three", "four", "ring")

SIZES = {"two": 2, "three": 3, "four": 4, "ring": 4}

UNITS = {"two": (1,), "three": (1, 2), "four": (1, 2, 3), "ring": (1, 3)}

SUMS = {
    "two": ((0, 1), (1, 0)),
    "three": ((0, 1, 2), (1, 2, 0), (2, 0, 1)),
    "four": ((0, 1, 2, 3), (1, 0, 3, 2), (2, 3, 0, 1), (3, 2, 1, 0)),
    "ring": ((0, 1, 2, 3), (1, 2, 3, 0), (2, 3, 0, 1), (3, 0, 1, 2)),
}

PRODUCTS = {
    "two": ((0, 0), (0, 1)),
    "three": ((0, 0, 0), (0, 1, 2), (0, 2, 1)),
    "four": ((0, 0, 0, 0), (0, 1, 2, 3), (0, 2, 3, 1), (0, 3, 1, 2)),
    "ring": ((0, 0, 0, 0), (0, 1, 2, 3), (0, 2, 0, 2), (0, 3, 2, 1)),
}

NEGATIVES = {"two": (0, 1), "three": (0, 2, 1), "four": (0, 1, 2, 3), "ring": (0, 3, 2, 1)}

TURNED = {"two": (0, 1), "three": (0, 1, 2), "four": (0, 1, 3, 2), "ring": (0, 1, 2, 3)}

# The unit that makes a mark the lead of a row in a plain basis: for a unit its
# inverse; the 2 of "ring", which has none, is such a lead as it stands.
LEVELLERS = {"two": (1, 1), "three": (1, 1, 2), "four": (1, 1, 3, 2), "ring": (1, 1, 1, 3)}

LEE_WEIGHTS = (0, 1, 2, 1)

EUCLID_WEIGHTS = (0, 1, 4, 1)


def row_sum(kind, one, other):
    """The sum of two rows."""
    sums = SUMS[kind]
    return tuple([sums[a][b] for a, b in zip(one, other)])


def row_multiple(kind, mark, row):
    """The multiple of a row by a mark."""
    times = PRODUCTS[kind][mark]
    return tuple([times[a] for a in row])


def row_less(kind, row, mark, other):
    """The row less the multiple of another one by a mark."""
    sums = SUMS[kind]
    times = PRODUCTS[kind][NEGATIVES[kind][mark]]
    return tuple([sums[a][times[b]] for a, b in zip(row, other)])


def row_meeting(kind, one, other):
    """The mark in which two rows meet."""
    sums = SUMS[kind]
    products = PRODUCTS[kind]
    turned = TURNED[kind]
    total = 0
    for a, b in zip(one, other):
        total = sums[total][products[a][turned[b]]]
    return total


def row_weight(row):
    """The weight of a row."""
    return len(row) - row.count(0)
