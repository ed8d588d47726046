"""Beginnings for two books of one kind and length: trees of cases, and the search for a change. Nothing is checked."""

from ownpartners.plainbasis import made_rows
from ownpartners.tables import PRODUCTS, UNITS, row_weight


class TwoBooks:
    """The rows of two books: their weights, and their marks place by place, those of the first book by units, too."""

    def __init__(self, one, other):
        kind, n, basis = one
        rows = made_rows(kind, n, basis)
        others = made_rows(kind, n, other[2])
        self.n = n
        self.units = UNITS[kind]
        self.first_weights = [row_weight(row) for row in rows]
        self.other_weights = [row_weight(row) for row in others]
        self.first_marks = {}
        for unit in self.units:
            times = PRODUCTS[kind][unit]
            self.first_marks[unit] = [[times[row[place]] for row in rows] for place in range(n)]
        self.other_marks = [[row[place] for row in others] for place in range(n)]


class Beginning:
    """The pairs of a beginning, and for each row of either book a number that tells its weight and these marks."""

    def __init__(self, pairs, firsts, others, clashes):
        self.pairs = pairs
        self.firsts = firsts
        self.others = others
        self.clashes = clashes


def first_beginning(books):
    """The beginning ()."""
    firsts, others = books.first_weights, books.other_weights
    return Beginning((), firsts, others, sorted(firsts) != sorted(others))


def further(numbers, marks):
    """The numbers of rows, made to tell one mark more of each."""
    return [4 * number + mark for number, mark in zip(numbers, marks)]


def next_beginnings(books, begun):
    """The list of the beginnings with one pair more: for each place left, ascending, each unit, ascending."""
    at = len(begun.pairs)
    firsts = {unit: further(begun.firsts, books.first_marks[unit][at]) for unit in books.units}
    first_lines = {unit: sorted(firsts[unit]) for unit in books.units}
    taken = [place for place, _ in begun.pairs]
    found = []
    for place in range(books.n):
        if place not in taken:
            others = further(begun.others, books.other_marks[place])
            line = sorted(others)
            for unit in books.units:
                pairs = begun.pairs + ((place, unit),)
                found.append(Beginning(pairs, firsts[unit], others, first_lines[unit] != line))
    return found


def tree_of(books, begun):
    """The tree of cases of a beginning that no change goes on with."""
    if begun.clashes:
        return "clash"
    return tuple([tree_of(books, longer) for longer in next_beginnings(books, begun)])


def tree_holds(books, begun, thing):
    """Whether any value is the tree of cases of a beginning."""
    if begun.clashes:
        return thing == "clash"
    if len(begun.pairs) == books.n or not isinstance(thing, tuple):
        return False
    nexts = next_beginnings(books, begun)
    return len(thing) == len(nexts) and all(tree_holds(books, longer, part) for longer, part in zip(nexts, thing))


def images_at(books, firsts, lines, place):
    """The list of the pairs (place led to, unit) for a place that do not clash, out of places with told numbers."""
    found = []
    for unit in books.units:
        line = sorted(further(firsts, books.first_marks[unit][place]))
        found.extend([(led_to, unit) for led_to in lines if lines[led_to] == line])
    return found


def narrowest(books, firsts, others, leads):
    """A place that is not led yet and has as few images as any, with the list of these."""
    taken = [led_to for led_to, _ in leads.values()]
    free = [place for place in range(books.n) if place not in taken]
    lines = {place: sorted(further(others, books.other_marks[place])) for place in free}
    best, fewest = None, None
    for place in range(books.n):
        if place not in leads:
            images = images_at(books, firsts, lines, place)
            if fewest is None or len(images) < len(fewest):
                best, fewest = place, images
    return (best, fewest)


def search(books, firsts, others, leads):
    """A dict that tells for each place a pair (place led to, unit), the told ones among them, of a change that leads
    the first book to the second one; None if there is none."""
    if len(leads) == books.n:
        return leads
    # Not the first place that is left, as in a tree of cases: the one with the fewest images keeps the search short.
    place, images = narrowest(books, firsts, others, leads)
    for led_to, unit in images:
        longer_firsts = further(firsts, books.first_marks[unit][place])
        longer_others = further(others, books.other_marks[led_to])
        found = search(books, longer_firsts, longer_others, {**leads, place: (led_to, unit)})
        if found is not None:
            return found
    return None


def change_from(books, begun):
    """A change that begins so and leads the first book to the second one; None if there is none."""
    if begun.clashes:
        return None
    leads = {place: begun.pairs[place] for place in range(len(begun.pairs))}
    found = search(books, begun.firsts, begun.others, leads)
    if found is None:
        return None
    pairs = [found[place] for place in range(books.n)]
    return (tuple([place for place, _ in pairs]), tuple([unit for _, unit in pairs]))


def judged(books, begun):
    """The certificate that a change begins so and leads the first book to the second one, or that none does."""
    change = change_from(books, begun)
    if change is None:
        return ("cases", tree_of(books, begun))
    return ("change", change)
