"""What the counts of a book tell of its partner."""

from ownpartners.checks import check_kind, check_length, check_up_to, is_integer_tuple, is_length
from ownpartners.errors import BadCounts, NotWhole
from ownpartners.tables import SIZES


def column(q, n, weight):
    """The tuple of all K(j, weight), for j from 0 to n, n from 0 on."""
    # They are the coefficients of z ** j in (1 - z) ** weight times (1 + (q - 1) z) ** (n - weight).
    sums = [1]
    for k in range(n):
        factor = -1 if k < weight else q - 1
        sums = [a + factor * b for a, b in zip(sums + [0], [0] + sums)]
    return tuple(sums)


def column_of(kind, n, weight):
    """The tuple of all K(j, weight), for j from 0 to n."""
    check_kind(kind)
    check_length(n)
    check_up_to(n, weight)
    return column(SIZES[kind], n, weight)


def is_number_tuple(many, thing):
    """Whether any value is a tuple of so many integers, none below 0."""
    return is_integer_tuple(many, thing) and all(number >= 0 for number in thing)


def check_numbers(many, numbers):
    """Raises BadCounts for any value that can't be so many counts, the first one 1."""
    if not is_number_tuple(many, numbers) or numbers[0] != 1:
        raise BadCounts(numbers)


def whole_share(total, parts, at):
    """The total divided by the parts; raises NotWhole if this is no integer, or is below 0."""
    if total < 0 or total % parts != 0:
        raise NotWhole(at)
    return total // parts


def partner_numbers(q, numbers):
    """The tuple of the partner numbers for q marks, for as many numbers as weights."""
    n = len(numbers) - 1
    columns = [column(q, n, weight) for weight in range(n + 1)]
    parts = sum(numbers)
    found = []
    for j in range(n + 1):
        total = sum(numbers[weight] * columns[weight][j] for weight in range(n + 1))
        found.append(whole_share(total, parts, j))
    return tuple(found)


def partner_counts(kind, n, numbers):
    """The tuple of the partner numbers of counts."""
    check_kind(kind)
    check_length(n)
    check_numbers(n + 1, numbers)
    return partner_numbers(SIZES[kind], numbers)


def partner_lee_counts(n, numbers):
    """The tuple of the partner numbers of Lee counts."""
    check_length(n)
    check_numbers(2 * n + 1, numbers)
    # With 2 n marks of "two" in the place of n marks of "ring".
    return partner_numbers(2, numbers)


def is_split(thing):
    """Whether any value has the form of split counts."""
    if not isinstance(thing, tuple) or not thing or not isinstance(thing[0], tuple):
        return False
    many = len(thing[0])
    if many == 0 or not is_length(len(thing) - 1 + many - 1):
        return False
    return all(is_number_tuple(many, line) for line in thing) and thing[0][0] == 1


def partner_split(kind, numbers):
    """The split counts of the partner of a book with told split counts."""
    check_kind(kind)
    if not is_split(numbers):
        raise BadCounts(numbers)
    q, p, m = SIZES[kind], len(numbers) - 1, len(numbers[0]) - 1
    inner = [column(q, p, v) for v in range(p + 1)]
    outer = [column(q, m, w) for w in range(m + 1)]
    parts = sum([sum(line) for line in numbers])
    found = []
    for i in range(p + 1):
        # For each w the sum over all v, so that these sums are not made anew for each j.
        sums = [sum([numbers[v][w] * inner[v][i] for v in range(p + 1)]) for w in range(m + 1)]
        line = [sum([sums[w] * outer[w][j] for w in range(m + 1)]) for j in range(m + 1)]
        found.append(tuple([whole_share(line[j], parts, (i, j)) for j in range(m + 1)]))
    return tuple(found)
