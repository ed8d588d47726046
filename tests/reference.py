"""Another way to reckon, straight from the words of the document, to judge the program by."""

from collections import Counter
from functools import lru_cache
from itertools import permutations, product

SIZES = {"two": 2, "three": 3, "four": 4, "ring": 4}
UNITS = {"two": (1,), "three": (1, 2), "four": (1, 2, 3), "ring": (1, 3)}
KINDS = tuple(SIZES)


def add(kind, a, b):
    # "four": the field of 4, with 2 for x and 3 for x + 1.
    return a ^ b if kind == "four" else (a + b) % SIZES[kind]


def times(kind, a, b):
    if kind != "four":
        return a * b % SIZES[kind]
    found = (a if b & 1 else 0) ^ (a << 1 if b & 2 else 0)
    return found ^ 7 if found & 4 else found


def turned(kind, a):
    return times(kind, a, a) if kind == "four" else a


def add_rows(kind, x, y):
    return tuple(add(kind, a, b) for a, b in zip(x, y))


def times_row(kind, m, x):
    return tuple(times(kind, m, a) for a in x)


def meet(kind, x, y):
    total = 0
    for a, b in zip(x, y):
        total = add(kind, total, times(kind, a, turned(kind, b)))
    return total


def weight(x):
    return sum(1 for a in x if a != 0)


def lee(x):
    return sum({0: 0, 1: 1, 2: 2, 3: 1}[a] for a in x)


def euclid(x):
    return sum({0: 0, 1: 1, 2: 4, 3: 1}[a] for a in x)


def all_rows(kind, n):
    return list(product(range(SIZES[kind]), repeat=n))


def closure(kind, n, rows):
    """The set of the rows that some rows make."""
    made = {(0,) * n}
    for row in rows:
        if row not in made:
            multiples = {times_row(kind, m, row) for m in range(SIZES[kind])}
            made = {add_rows(kind, x, y) for x in made for y in multiples}
    return made


def partner_rows(kind, n, rows):
    """The set of all rows that meet each of some rows in 0."""
    return {x for x in all_rows(kind, n) if all(meet(kind, x, y) == 0 for y in rows)}


def lead_of(row):
    """The pair (place, mark) of the lead."""
    return next((place, mark) for place, mark in enumerate(row) if mark)


def is_plain(kind, n, basis):
    """Whether a tuple of rows is a plain basis, point for point as [2.2] has it."""
    if any(not any(row) for row in basis):
        return False
    leads = [lead_of(row) for row in basis]
    if any(leads[k][0] >= leads[k + 1][0] for k in range(len(basis) - 1)):
        return False
    if any(mark not in ((1, 2) if kind == "ring" else (1,)) for _, mark in leads):
        return False
    for j, (place, mark) in enumerate(leads):
        let = (0, 1) if kind == "ring" and mark == 2 else (0,)
        if any(basis[i][place] not in let for i in range(j)):
            return False
        if kind == "ring" and mark == 2:
            if times_row(kind, 2, basis[j]) not in closure(kind, n, basis[j + 1:]):
                return False
    return True


def some_rows(chance, kind, n, many):
    """A tuple of so many rows, by a random.Random."""
    return tuple(tuple(chance.randrange(SIZES[kind]) for _ in range(n)) for _ in range(many))


def makers_of_all_sets(kind, n):
    """Pairs (rows, the set that they make): each closed set, most of them many times, from rows in every order."""
    waiting = [((), frozenset(closure(kind, n, ())))]
    seen = {waiting[0][1]}
    yield waiting[0]
    while waiting:
        rows, _ = waiting.pop()
        for row in all_rows(kind, n):
            makers = rows + (row,) if sum(row) % 2 else (row,) + rows
            made = frozenset(closure(kind, n, makers))
            yield makers, made
            if made not in seen:
                seen.add(made)
                waiting.append((makers, made))


@lru_cache(maxsize=None)
def closed_sets(kind, n):
    """The tuple of all closed sets of rows, each as an ascending tuple, with rows that make it: (makers, set)."""
    found = {}
    for makers, made in makers_of_all_sets(kind, n):
        found.setdefault(tuple(sorted(made)), makers)
    return tuple((makers, made) for made, makers in sorted(found.items()))


@lru_cache(maxsize=None)
def all_changes(kind, n):
    """The tuple of all changes."""
    return tuple(product(permutations(range(n)), product(UNITS[kind], repeat=n)))


def is_right_change(kind, n, thing):
    """Whether any value is a change, sort for sort."""
    if type(thing) is not tuple or len(thing) != 2 or any(type(part) is not tuple or len(part) != n for part in thing):
        return False
    if any(type(number) is not int for part in thing for number in part):
        return False
    return set(thing[0]) == set(range(n)) and all(factor in UNITS[kind] for factor in thing[1])


def lead(kind, change, row):
    """The row to which a change leads a row: each mark goes to its place."""
    found = {change[0][i]: times(kind, change[1][i], row[i]) for i in range(len(row))}
    return tuple(found[place] for place in range(len(row)))


def lead_all(kind, change, rows):
    return frozenset(lead(kind, change, row) for row in rows)


def clashes(kind, rows, others, beginning):
    """Whether a beginning clashes, by the joint counts as [4.3] has them."""
    first = Counter((tuple(times(kind, f, x[i]) for i, (_, f) in enumerate(beginning)), weight(x)) for x in rows)
    second = Counter((tuple(y[p] for p, _ in beginning), weight(y)) for y in others)
    return first != second


def tree(kind, n, rows, others, beginning=()):
    """The tree of cases of a beginning; None if there is none."""
    if clashes(kind, rows, others, beginning):
        return "clash"
    if len(beginning) == n:
        return None
    taken = {p for p, _ in beginning}
    parts = []
    for pair in product([p for p in range(n) if p not in taken], UNITS[kind]):
        parts.append(tree(kind, n, rows, others, beginning + (pair,)))
        if parts[-1] is None:
            return None
    return tuple(parts)


def words(told):
    """How many words a tree of cases has."""
    return 1 if told == "clash" else sum(map(words, told))


def unmet(kind, rows):
    """Whether two of some rows, or one and itself, do not meet in 0."""
    return any(meet(kind, x, y) != 0 for x in rows for y in rows)


@lru_cache(maxsize=None)
def nought_sets(kind, n):
    """The tuple of all closed sets that meet in nought, each as an ascending tuple."""
    first = ((0,) * n,)
    waiting, seen = [first], {first}
    isotropic = [x for x in all_rows(kind, n) if meet(kind, x, x) == 0]
    while waiting:
        rows = waiting.pop()
        inside = set(rows)
        for x in isotropic:
            if x in inside or any(meet(kind, x, y) != 0 for y in rows):
                continue
            multiples = {times_row(kind, m, x) for m in range(SIZES[kind])}
            made = tuple(sorted({add_rows(kind, y, z) for y in rows for z in multiples}))
            if kind != "ring":
                # All further rows of this set make the same one.
                inside.update(made)
            if made not in seen:
                seen.add(made)
                waiting.append(made)
    return tuple(sorted(seen))


@lru_cache(maxsize=None)
def own_sets(kind, n):
    """The tuple of the rows of all own partners: of the sets that meet in nought, those with enough rows."""
    return tuple(rows for rows in nought_sets(kind, n) if len(rows) * len(rows) == SIZES[kind] ** n)


def is_fourfold_set(rows):
    return all(weight(x) % 4 == 0 for x in rows)


def basis_of(kind, n, rows):
    """The plain basis of a closed set, by going through its rows from the ones with the most noughts ahead."""
    basis = ()
    made = {(0,) * n}
    for row in sorted(rows):
        if row not in made and is_plain(kind, n, (row,) + basis):
            basis = (row,) + basis
            made = closure(kind, n, basis)
    return basis
