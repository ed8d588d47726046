"""Short rows: what the rows of the weight 4 make, in a book of "two" that meets in nought and has none of the weight 2.
"""

from ownpartners.books import how_many
from ownpartners.checks import is_place_tuple
from ownpartners.counts import rows_of_weight
from ownpartners.errors import BadPlaces, HasTwo
from ownpartners.own import check_binary, check_nought
from ownpartners.pieces import books_of_parts
from ownpartners.plainbasis import plain_basis


def check_short(book):
    """Raises the errors of a value that is no book of "two" that meets in nought and has no row of the weight 2."""
    check_binary(book)
    check_nought(book)
    rows = rows_of_weight(book, 2)
    if rows:
        raise HasTwo(rows[0])


def made_by_fours(book):
    """The book of all sums of rows of the weight 4; nothing is checked."""
    kind, n, _ = book
    return (kind, n, plain_basis(kind, rows_of_weight(book, 4)))


def name_of(part, part_book):
    """The name of a part of a short book."""
    many = len(part)
    if many == 1:
        return "single"
    if many == 7:
        return "e7"
    # With 8 places e8 has the dimension 4, and d8 the dimension 3.
    if many == 8 and len(part_book[2]) == 4:
        return "e8"
    return f"d{many}"


def named_parts(short):
    """The ascending tuple of the pairs (name, part) of a short book."""
    return tuple(sorted([(name_of(part, part_book), part) for part, part_book in books_of_parts(short)]))


def short_book(book):
    """The book of all sums of rows of the weight 4."""
    check_short(book)
    return made_by_fours(book)


def short_parts(book):
    """The ascending tuple of the pairs (name, part) of the short book."""
    check_short(book)
    return named_parts(made_by_fours(book))


def glue_number(book):
    """How many classes of rows are glued alike."""
    check_short(book)
    return how_many(book) // how_many(made_by_fours(book))


def has_pairs(name):
    """Whether a name is that of a part with just one division into pairs."""
    return name.startswith("d") and name != "d4"


def pairs_of(book, part):
    """The ascending tuple of the pairs of a part of the short book."""
    check_short(book)
    short = made_by_fours(book)
    paired = [places for name, places in named_parts(short) if has_pairs(name)]
    if not is_place_tuple(book[1], part) or part not in paired:
        raise BadPlaces(part)
    # With three pairs or more, some row has unlike marks at any two places that are no pair.
    columns = {place: [row[place] for row in short[2]] for place in part}
    return tuple([(one, other) for one in part for other in part if one < other and columns[one] == columns[other]])
