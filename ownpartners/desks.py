"""Desks: books under deeds, with claims that stay kept."""

from ownpartners.books import check_book
from ownpartners.changes import led
from ownpartners.claims import begins_claim, claim_line, is_claim, is_kept, read_claim
from ownpartners.combining import beside, partner_of, shortened, thinned
from ownpartners.errors import BadClaim, BadRow, BadText, NoClaim, NothingToRedo, NothingToUndo, Unkept
from ownpartners.neighbours import neighbour_by
from ownpartners.plainbasis import plain_basis
from ownpartners.rows import is_row_of_length
from ownpartners.texts import read_book, text_of


class Desk:
    """A book with claims about it, led from standing to standing by deeds."""

    def __init__(self, book):
        check_book(book)
        self._standing = (book, ())
        self._past = []
        self._undone = []

    def book(self):
        """The book."""
        return self._standing[0]

    def claims(self):
        """The tuple of the claims, in the order in which they were taken up."""
        return self._standing[1]

    def text(self):
        """The text of the book and of the claims."""
        return "\n".join([text_of(self.book())] + [claim_line(claim) for claim in self.claims()])

    def undoable(self):
        """How many deeds can be undone."""
        return len(self._past)

    def redoable(self):
        """How many deeds can be done again."""
        return len(self._undone)

    def copied(self):
        """A new desk with the same standing, and with nothing to undo or to redo."""
        return desk_standing(self.book(), self.claims())

    def is_same(self, thing):
        """Whether any value is a desk with an equal standing."""
        return isinstance(thing, Desk) and thing.book() == self.book() and thing.claims() == self.claims()

    def _settle(self, book, claims):
        """Gives the desk a new standing, if it has no claim that is not kept."""
        for claim in claims:
            if not is_kept(book, claim):
                raise Unkept(claim)
        self._past.append(self._standing)
        self._undone.clear()
        self._standing = (book, claims)

    def lead(self, change):
        """The book is led by a change."""
        self._settle(led(self.book(), change), self.claims())

    def put(self, row):
        """The book is replaced by the join of it and of what a row makes."""
        kind, n, basis = self.book()
        if not is_row_of_length(kind, n, row):
            raise BadRow(row)
        self._settle((kind, n, plain_basis(kind, basis + (row,))), self.claims())

    def neighbour(self, row):
        """The book is replaced by its neighbour by a row."""
        self._settle(neighbour_by(self.book(), row), self.claims())

    def turn_round(self):
        """The book is replaced by its partner."""
        self._settle(partner_of(self.book()), self.claims())

    def lay_beside(self, book):
        """The book is replaced by the book beside of it and a given one."""
        self._settle(beside(self.book(), book), self.claims())

    def thin(self, places):
        """The book is replaced by the thinned one."""
        self._settle(thinned(self.book(), places), self.claims())

    def shorten(self, places):
        """The book is replaced by the shortened one."""
        self._settle(shortened(self.book(), places), self.claims())

    def claim(self, claim):
        """Takes a claim up, behind all others."""
        if not is_claim(claim) or claim in self.claims():
            raise BadClaim(claim)
        self._settle(self.book(), self.claims() + (claim,))

    def release(self, claim):
        """The desk has a claim no more."""
        if not is_claim(claim) or claim not in self.claims():
            raise NoClaim(claim)
        self._settle(self.book(), tuple([one for one in self.claims() if one != claim]))

    def undo(self):
        """Gives the desk the standing that it had ahead of the last deed that is not undone."""
        if not self._past:
            raise NothingToUndo()
        self._undone.append(self._standing)
        self._standing = self._past.pop()

    def redo(self):
        """Gives the desk the standing that the deed that was undone last had left."""
        if not self._undone:
            raise NothingToRedo()
        self._past.append(self._standing)
        self._standing = self._undone.pop()


def desk_standing(book, claims):
    """A new desk with a standing, and with nothing to undo."""
    desk = Desk(book)
    desk._standing = (book, claims)
    return desk


def first_claim_line(lines):
    """The position, behind the first line, of the first line that begins as that of a claim; their number if none
    does."""
    for at in range(1, len(lines)):
        if begins_claim(lines[at]):
            return at
    return len(lines)


def read_desk(text):
    """A new desk with the standing of a text, and nothing to undo."""
    if not isinstance(text, str):
        raise BadText(0)
    lines = text.split("\n")
    first = first_claim_line(lines)
    book = read_book("\n".join(lines[:first]))
    claims = ()
    for at in range(first, len(lines)):
        claim = read_claim(lines[at])
        if claim is None or claim in claims or not is_kept(book, claim):
            raise BadText(at + 1)
        claims = claims + (claim,)
    return desk_standing(book, claims)
