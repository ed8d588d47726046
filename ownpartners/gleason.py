"""Gleason's sums: what the counts of own partners are sums of, and what bars numbers from being such counts."""

from ownpartners.checks import MOST_DEGREE, check_integers, is_integer, is_integer_tuple
from ownpartners.errors import BadLength
from ownpartners.families import are_there, check_counted_family
from ownpartners.shadows import half_power, sums_of_shadow

# The told sums f and g, by the power of y.
FIRST_SUMS = {
    "two": (1, 0, 1),
    "fourfold": (1, 0, 0, 0, 14, 0, 0, 0, 1),
    "three": (1, 0, 0, 8, 0),
    "four": (1, 0, 3),
}
SECOND_SUMS = {
    "two": (0, 0, 1, 0, -2, 0, 1, 0, 0),
    "fourfold": (0, 0, 0, 0, 1, 0, 0, 0, -4, 0, 0, 0, 6, 0, 0, 0, -4, 0, 0, 0, 1, 0, 0, 0, 0),
    "three": (0, 0, 0, 1, 0, 0, -3, 0, 0, 3, 0, 0, -1),
    "four": (0, 0, 1, 0, -2, 0, 1),
}
GAPS = {"two": 2, "fourfold": 4, "three": 3, "four": 2}

# By what the numbers of rows of a weight above 0 are divisible: by how many units a kind has.
UNIT_NUMBERS = {"two": 1, "fourfold": 1, "three": 2, "four": 3}


def check_family_length(family, n):
    """Raises the errors of two values that are not a family and a length for which own partners of it are there."""
    check_counted_family(family)
    if not is_integer(n) or not 1 <= n <= MOST_DEGREE or not are_there(family, n):
        raise BadLength(n)


def multiplied(one, other):
    """The product of two sums, by the power of y."""
    found = [0] * (len(one) + len(other) - 1)
    for j in range(len(one)):
        for k in range(len(other)):
            found[j + k] += one[j] * other[k]
    return tuple(found)


def products_of(family, n):
    """The tuple of the told products; nothing is checked."""
    first, second = FIRST_SUMS[family], SECOND_SUMS[family]
    found = []
    power = (1,)
    while len(power) - 1 <= n:
        product = power
        while len(product) - 1 < n:
            product = multiplied(product, first)
        found.append(product)
        power = multiplied(power, second)
    return tuple(found)


def summed(products, multiples):
    """The tuple of the sum of multiples of the told products."""
    return tuple([sum([one * number for one, number in zip(multiples, line)]) for line in zip(*products)])


def multiples_for(family, products, firsts):
    """The tuple of the multiples of the told products whose sum has some numbers at the weights 0, c, 2 c, .."""
    multiples = []
    for b in range(len(products)):
        # The product with b times g is the first one that has a number other than 0 here, and its number is 1.
        at = GAPS[family] * b
        ahead = sum([one * product[at] for one, product in zip(multiples, products)])
        multiples.append(firsts[b] - ahead)
    return tuple(multiples)


def fitting(family, n, numbers):
    """The multiples of the told products whose sum has the told numbers at the weights 0, c, .., and this sum."""
    products = products_of(family, n)
    multiples = multiples_for(family, products, [numbers[GAPS[family] * b] for b in range(len(products))])
    return (multiples, summed(products, multiples))


def told_products(family, n):
    """The tuple of the told products."""
    check_family_length(family, n)
    return products_of(family, n)


def judge_counts(family, n, numbers):
    """The multiples of the told products of which numbers are the sum, or a weight at which they are not."""
    check_family_length(family, n)
    check_integers(n + 1, numbers)
    multiples, due = fitting(family, n, numbers)
    for weight in range(n + 1):
        if numbers[weight] != due[weight]:
            return ("unlike", weight, due[weight])
    return ("sum", multiples)


def is_weight(n, thing):
    """Whether any value is an integer from 0 to n."""
    return is_integer(thing) and 0 <= thing <= n


def unlike_holds(family, n, numbers, thing):
    """Whether any value tells a weight at which numbers are not as their only fitting sum has it."""
    if not isinstance(thing, tuple) or len(thing) != 3 or thing[0] != "unlike":
        return False
    _, weight, due = thing
    if not is_weight(n, weight) or not is_integer(due) or numbers[weight] == due:
        return False
    return fitting(family, n, numbers)[1][weight] == due


def sum_holds(family, n, numbers, thing):
    """Whether any value tells the multiples of the told products of which numbers are the sum."""
    if not isinstance(thing, tuple) or len(thing) != 2 or thing[0] != "sum":
        return False
    products = products_of(family, n)
    return is_integer_tuple(len(products), thing[1]) and summed(products, thing[1]) == numbers


def counts_hold(family, n, numbers, thing):
    """Whether any value is a certificate that numbers are a sum of the told products, or that they are not."""
    check_family_length(family, n)
    check_integers(n + 1, numbers)
    return sum_holds(family, n, numbers, thing) or unlike_holds(family, n, numbers, thing)


def numbers_from(family, n, firsts):
    """The sum of the told products with some numbers at the weights 0, c, 2 c, ..; nothing is checked."""
    products = products_of(family, n)
    return summed(products, multiples_for(family, products, firsts))


def products_number(family, n):
    """How many told products there are."""
    return n // (len(SECOND_SUMS[family]) - 1) + 1


def counts_from(family, n, firsts):
    """The only sum of the told products with some numbers at the weights 0, c, 2 c, .."""
    check_family_length(family, n)
    check_integers(products_number(family, n), firsts)
    return numbers_from(family, n, firsts)


def least_bound(family, n):
    """What the least weight above 0 of an own partner is at most."""
    check_family_length(family, n)
    return GAPS[family] * products_number(family, n)


def extreme_counts(family, n):
    """The counts of an own partner whose least weight above 0 is the bound."""
    check_family_length(family, n)
    return numbers_from(family, n, (1,) + (0,) * (products_number(family, n) - 1))


def is_barred_in_shadow(n, number):
    """Whether a number of the shadow, not yet divided, is none of rows."""
    return number < 0 or number % half_power(n) != 0


def plain_bars(family, n, numbers):
    """The list of the certificates that bar numbers by one of them each."""
    bars = [("first",)] if numbers[0] != 1 else []
    bars.extend([("below", weight) for weight in range(n + 1) if numbers[weight] < 0])
    bars.extend([("units", weight) for weight in range(1, n + 1) if numbers[weight] % UNIT_NUMBERS[family]])
    return bars


def shadow_bars(family, n, numbers):
    """The list of the certificates that bar numbers by the shadow."""
    if family != "two":
        return []
    sums = sums_of_shadow(n, numbers)
    return [("shadow", j) for j in range(n + 1) if is_barred_in_shadow(n, sums[j])]


def judge_bar(family, n, numbers):
    """What shows that no own partner has some numbers as its counts; None if nothing told does."""
    unlike = judge_counts(family, n, numbers)
    bars = plain_bars(family, n, numbers) + shadow_bars(family, n, numbers)
    if unlike[0] == "unlike":
        bars.append(unlike)
    return bars[0] if bars else None


def is_bar(bars, thing):
    """Whether any value is one of some bars; True is no 1 and False no 0."""
    if not isinstance(thing, tuple) or not all(isinstance(part, str) or is_integer(part) for part in thing):
        return False
    return thing in bars


def bar_holds(family, n, numbers, thing):
    """Whether any value shows that no own partner has some numbers as its counts."""
    check_family_length(family, n)
    check_integers(n + 1, numbers)
    bars = plain_bars(family, n, numbers) + shadow_bars(family, n, numbers)
    return is_bar(bars, thing) or unlike_holds(family, n, numbers, thing)
