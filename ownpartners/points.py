"""Points of books: the tuples of integers whose remainders are rows."""

from ownpartners.books import check_book, has_row
from ownpartners.checks import check_from_nought, is_integer, is_integer_tuple
from ownpartners.counts import counts_of, euclid_counts, least_counted
from ownpartners.errors import BadNumber, BadRow, OtherKind
from ownpartners.plainbasis import made_rows
from ownpartners.tables import SIZES

MOST_DIVISOR = 16


def check_pointed(book):
    """Raises the errors of a value that is no book of "two", "three" or "ring"."""
    check_book(book)
    if book[0] == "four":
        raise OtherKind(book)


def check_integers_of(book, thing):
    """Raises BadRow for any value that is no tuple of as many integers as the rows of a book have marks."""
    if not is_integer_tuple(book[1], thing):
        raise BadRow(thing)


def check_divisor(thing):
    """Raises BadNumber for any value that is no integer from 1 to 16."""
    if not is_integer(thing) or not 1 <= thing <= MOST_DIVISOR:
        raise BadNumber(thing)


def product_sum(one, other):
    """What two tuples of integers meet in."""
    return sum([a * b for a, b in zip(one, other)])


def is_point_of(book, thing):
    """Whether any value is a point of a book; the book is not checked."""
    kind, n, _ = book
    return is_integer_tuple(n, thing) and has_row(book, tuple([number % SIZES[kind] for number in thing]))


def is_point(book, thing):
    """Whether any value is a point of a book."""
    check_pointed(book)
    return is_point_of(book, thing)


def norm(book, point):
    """The sum of the squares of a point."""
    check_pointed(book)
    if not is_point_of(book, point):
        raise BadRow(point)
    return product_sum(point, point)


def integers_of(q, mark, most):
    """The ascending list of the integers of a remainder whose squares are at most a number from 0 on."""
    below = []
    number = mark - q
    while number * number <= most:
        below.append(number)
        number = number - q
    above = []
    number = mark
    while number * number <= most:
        above.append(number)
        number = number + q
    return below[::-1] + above


def longer_numbers(numbers, integers):
    """The numbers of tuples by norm, for tuples with one more of some integers, up to the same most."""
    most = len(numbers) - 1
    found = [0] * (most + 1)
    for integer in integers:
        square = integer * integer
        for k in range(most - square + 1):
            found[k + square] += numbers[k]
    return found


def rows_by_squares(book):
    """The dict of the numbers of rows by their marks, in ascending order; marks with the same squares are one."""
    kind, n, basis = book
    q = SIZES[kind]
    found = {}
    for row in made_rows(kind, n, basis):
        key = tuple(sorted([min(mark, q - mark) for mark in row]))
        found[key] = found.get(key, 0) + 1
    return found


def numbers_by_norm(book, most):
    """The list of the numbers of the points by norm, from 0 to the most; nothing is checked."""
    q = SIZES[book[0]]
    totals = [0] * (most + 1)
    for marks, many in rows_by_squares(book).items():
        numbers = [1] + [0] * most
        for mark in marks:
            numbers = longer_numbers(numbers, integers_of(q, mark, most))
        totals = [total + many * number for total, number in zip(totals, numbers)]
    return totals


def point_number(book, m):
    """How many points have a norm."""
    check_pointed(book)
    check_from_nought(m)
    return numbers_by_norm(book, m)[m]


def point_numbers(book, most):
    """The tuple of the numbers of points by norm, from 0 to the most."""
    check_pointed(book)
    check_from_nought(most)
    return tuple(numbers_by_norm(book, most))


def tails_by_norm(q, row, m):
    """For each place the numbers of the ways to have a norm with the marks from it on, and behind the last place."""
    tails = [[1] + [0] * m]
    for mark in reversed(row):
        tails.append(longer_numbers(tails[-1], integers_of(q, mark, m)))
    return tails[::-1]


def points_over(q, row, m):
    """The list of the tuples of the norm m whose remainders are a row."""
    tails = tails_by_norm(q, row, m)
    # Each one that is begun is told with what its norm lacks, and gone on with only where this can be had.
    begun = [((), m)] if tails[0][m] else []
    for place in range(len(row)):
        longer = []
        for numbers, left in begun:
            for number in integers_of(q, row[place], left):
                if tails[place + 1][left - number * number]:
                    longer.append((numbers + (number,), left - number * number))
        begun = longer
    return [numbers for numbers, _ in begun]


def points_of(book, m):
    """The ascending tuple of the points of a norm."""
    check_pointed(book)
    check_from_nought(m)
    kind, n, basis = book
    found = []
    for row in made_rows(kind, n, basis):
        found.extend(points_over(SIZES[kind], row, m))
    return tuple(sorted(found))


def least_norm(book):
    """The least norm of a point other than the one of noughts."""
    check_pointed(book)
    q = SIZES[book[0]]
    least = least_counted(euclid_counts(book) if book[0] == "ring" else counts_of(book))
    return q * q if least is None else min(q * q, least)


def unmet_point(book, x):
    """A point that a tuple does not meet in a multiple of q; None if there is none."""
    for row in book[2]:
        if product_sum(x, row) % SIZES[book[0]]:
            return row
    # All points are sums of multiples of these rows and of tuples of multiples of q.
    return None


def told_certificate(point):
    """The certificate that there is no such point, or the point."""
    return ("always",) if point is None else ("point", point)


def told_point(book, thing):
    """The point of a book that any value tells, as a certificate does; None if it tells none."""
    if not isinstance(thing, tuple) or len(thing) != 2 or thing[0] != "point":
        return None
    return thing[1] if is_point_of(book, thing[1]) else None


def judge_meetings(book, x):
    """The certificate that a tuple meets all points in multiples of q, or a point that it does not."""
    check_pointed(book)
    check_integers_of(book, x)
    return told_certificate(unmet_point(book, x))


def meetings_hold(book, x, thing):
    """Whether any value is a certificate that a tuple meets all points in multiples of q, or that it does not."""
    check_pointed(book)
    check_integers_of(book, x)
    if thing == ("always",):
        return unmet_point(book, x) is None
    point = told_point(book, thing)
    return point is not None and product_sum(x, point) % SIZES[book[0]] != 0


def makers_of(book):
    """The list of points of whose multiples all points are sums."""
    kind, n, basis = book
    return list(basis) + [(0,) * k + (SIZES[kind],) + (0,) * (n - k - 1) for k in range(n)]


def odd_point(book, t):
    """A point whose norm is no multiple of t; None if there is none."""
    makers = makers_of(book)
    for k in range(len(makers)):
        sums = [tuple([a + b for a, b in zip(one, makers[k])]) for one in makers[:k]]
        for point in [makers[k]] + sums:
            if product_sum(point, point) % t:
                return point
    # The norm of a sum of multiples is a sum of multiples of norms of these and of twice what any two of them meet in.
    return None


def judge_norms(book, t):
    """The certificate that the norms of all points are multiples of t, or a point whose norm is none."""
    check_pointed(book)
    check_divisor(t)
    return told_certificate(odd_point(book, t))


def norms_hold(book, t, thing):
    """Whether any value is a certificate that the norms of all points are multiples of t, or that they are not."""
    check_pointed(book)
    check_divisor(t)
    if thing == ("always",):
        return odd_point(book, t) is None
    point = told_point(book, thing)
    return point is not None and product_sum(point, point) % t != 0
