"""Plain bases of closed sets of rows. Nothing is checked here, and rows may have any number of marks."""

from ownpartners.tables import LEVELLERS, SIZES, row_less, row_multiple, row_sum


def lead_place(row):
    """The place of the lead of a row; None if the row is all 0."""
    for place in range(len(row)):
        if row[place]:
            return place
    return None


def remainder(kind, basis, row):
    """What is left of a row when rows of a plain basis are taken away; all 0 just for the rows that they make."""
    for head in basis:
        place = lead_place(head)
        row = row_less(kind, row, row[place] // head[place], head)
    return row


def makes(kind, basis, row):
    """Whether a plain basis makes a row."""
    return not any(remainder(kind, basis, row))


def sift(kind, heads, row):
    """Puts a row to the rows that are kept in a dict by the places of their leads.

    What the kept rows make is closed up at each place: of the made rows that have 0 ahead of a place, each is made
    by the kept rows whose leads stand there or behind."""
    waiting = [row]
    while waiting:
        one = waiting.pop()
        place = lead_place(one)
        if place is None:
            continue
        one = row_multiple(kind, LEVELLERS[kind][one[place]], one)
        head = heads.get(place)
        if head is None:
            heads[place] = one
            if one[place] == 2:
                # Twice this row is 0 here, so the rows further on have to make it.
                waiting.append(row_sum(kind, one, one))
        elif head[place] <= one[place]:
            waiting.append(row_less(kind, one, one[place] // head[place], head))
        else:
            heads[place] = one
            waiting.append(row_less(kind, head, 2, one))


def plain_basis(kind, rows):
    """The plain basis of the set that some rows make."""
    heads = {}
    for row in rows:
        sift(kind, heads, row)
    basis = []
    for place in sorted(heads, reverse=True):
        basis = [remainder(kind, basis, heads[place])] + basis
    return tuple(basis)


def basis_behind(kind, ahead, rows):
    """The plain basis of the tails of all made rows that begin with so many noughts, without these noughts."""
    return tuple([row[ahead:] for row in plain_basis(kind, rows) if lead_place(row) >= ahead])


def fits_behind(kind, ahead, row):
    """Whether a row may stand in a plain basis behind the rows that are ahead of it."""
    place = lead_place(row)
    if place is None:
        return False
    lead = row[place]
    if lead != 1 and (kind, lead) != ("ring", 2):
        return False
    if ahead and lead_place(ahead[-1]) >= place:
        return False
    # Below the lead 1 there is 0 alone, below the lead 2 there are 0 and 1: just the marks that are let.
    return all(head[place] < lead for head in ahead)


def doubles_hold(kind, basis):
    """Whether twice each row with the lead 2 is made by the rows behind it."""
    for k in range(len(basis)):
        if basis[k][lead_place(basis[k])] == 2 and not makes(kind, basis[k + 1:], row_sum(kind, basis[k], basis[k])):
            return False
    return True


def is_plain_basis(kind, basis):
    """Whether a tuple of rows of one length is the plain basis of the set that they make."""
    return all(fits_behind(kind, basis[:k], basis[k]) for k in range(len(basis))) and doubles_hold(kind, basis)


def rows_by_lead(kind, head):
    """By how many multiples of a basis row the number of the made rows grows."""
    return 2 if head[lead_place(head)] == 2 else SIZES[kind]


def made_rows(kind, n, basis):
    """The list of the rows of n marks that a plain basis makes, each once, in any order."""
    rows = [(0,) * n]
    for head in reversed(basis):
        multiples = [row_multiple(kind, mark, head) for mark in range(rows_by_lead(kind, head))]
        rows = [row_sum(kind, one, row) for one in multiples for row in rows]
    return rows
