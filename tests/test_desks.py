import itertools
import random
import time
import unittest

from ownpartners import errors
from ownpartners.books import book_of, how_many, is_book, nought_book, rows_of, whole_book
from ownpartners.changes import led
from ownpartners.combining import beside, joined, partner_of, shortened, thinned
from ownpartners.desks import Desk, read_desk
from ownpartners.growing import own_through
from ownpartners.neighbours import neighbour_by
from ownpartners.own import own_holds
from ownpartners.texts import read_book, text_of
from tests import reference
from tests.cases import BOOKS, DESK, HEXA, JUNK, PAIRS, RING, TETRA, BookCase, mutants, same
from tests.test_changes import random_change
from tests.test_own import GOLAY, OCTA, OCTAD

PAIR = ("two", 2, ((1, 1),))
OWN, NOUGHT, FOURFOLD = ("own",), ("nought",), ("fourfold",)

# Values that are no claims.
NO_CLAIMS = JUNK + (
    "own", "nought", ["own"], ("Own",), ("own", 1), ("own", None), ("two",), ("least",), ("has",), (OWN,), (), ("least", 0),
    ("least", 17), ("least", -1), ("least", True), ("least", "3"), ("least", None), ("least", (3,)), ("least", 3, 3), ["least", 3],
    ("has", ()), ("has", [1, 0]), ("has", (1, True)), ("has", (1, 4)), ("has", (0, -1)), ("has", (0,) * 17), ("has", "10"),
    ("has", (1, 0), 1), ("has", 1), ("has", None), ("has", ((1, 0),)), ("has", ("1", "0")), ("least 3",), "least 3", (None, 3),
    (["own"],), ("Has", (1, 1, 0, 0)), ("own", (1, 1, 0, 0)), ("", (0, 0, 0, 0)), (None, (1, 1, 0, 0)), ("nought", 2), ("Least", 2),
    ("fourfold", "own"), (True,), {OWN: OWN}, ("has", DESK), ("least", DESK), (DESK,))


def is_kept(book, claim):
    """Whether a book keeps a claim, by the words of [13.2]."""
    kind, n, _ = book
    rows = set(rows_of(book))
    if claim == OWN:
        return reference.partner_rows(kind, n, book[2]) == rows if n < 6 else own_holds(book, OWN)
    if claim == NOUGHT:
        return not reference.unmet(kind, book[2])
    if claim == FOURFOLD:
        return kind == "two" and reference.is_fourfold_set(rows)
    if claim[0] == "least":
        return all(reference.weight(row) >= claim[1] for row in rows if any(row))
    return claim[1] in rows


def standing(desk):
    return (desk.book(), desk.claims())


def everything(desk):
    """All that can be read of a desk."""
    return (desk.book(), desk.claims(), desk.undoable(), desk.redoable(), desk.text())


def desk_with(book, *claims):
    desk = Desk(book)
    for claim in claims:
        desk.claim(claim)
    return desk


class DeskCase(BookCase):
    def check_deed(self, desk, book, claims, method, /, *arguments, **named):
        """The deed gives just this standing, and can be undone and done again."""
        before = everything(desk)
        self.assertIsNone(method(*arguments, **named))
        self.assertTrue(same(standing(desk), (book, claims)), (standing(desk), book, claims))
        self.assertEqual((desk.undoable(), desk.redoable()), (before[2] + 1, 0))
        after = everything(desk)
        self.assertIsNone(desk.undo())
        self.assertEqual(everything(desk), before[:3] + (1,) + before[4:])
        self.assertIsNone(desk.redo())
        self.assertEqual(everything(desk), after)

    def refused(self, error, value, desk, method, *arguments, **named):
        """The deed is refused with just this error, and the desk is as it was."""
        before = everything(desk)
        self.assert_bears(error, value, method, *arguments, **named)
        self.assertEqual(everything(desk), before)

    def refused_bare(self, error, desk, method, *arguments, **named):
        before = everything(desk)
        self.assert_bare(error, method, *arguments, **named)
        self.assertEqual(everything(desk), before)


class Deeds(DeskCase):
    def test_new_desks(self):
        for book in BOOKS + (OCTAD, OCTA, GOLAY, whole_book("two", 8), nought_book("four", 16)):
            desk = Desk(book)
            self.assertEqual(everything(desk), (book, (), 0, 0, text_of(book)))
            self.assertEqual(everything(Desk(book=book)), everything(desk))

    def test_led(self):
        chance = random.Random("lead")
        for book in BOOKS + (OCTAD, OCTA):
            desk = Desk(book)
            for _ in range(3):
                change = random_change(chance, book[0], book[1])
                self.check_deed(desk, led(desk.book(), change), (), desk.lead, change)
            change = random_change(chance, book[0], book[1])
            self.check_deed(desk, led(desk.book(), change), (), desk.lead, change=change)

    def test_put(self):
        chance = random.Random("put")
        for book in BOOKS + (OCTAD, nought_book("ring", 3)):
            kind, n, _ = book
            desk = Desk(book)
            for row in reference.some_rows(chance, kind, n, 3) + ((0,) * n,) + rows_of(book)[:2]:
                due = {reference.add_rows(kind, x, reference.times_row(kind, mark, row))
                       for x in rows_of(desk.book()) for mark in range(reference.SIZES[kind])}
                made = joined(desk.book(), book_of(kind, n, (row,)))
                self.assertEqual(set(rows_of(made)), due)
                self.check_deed(desk, made, (), desk.put, row)
            self.check_deed(desk, desk.book(), (), desk.put, row=(0,) * n)

    def test_neighbours(self):
        for book in (PAIRS, OCTAD, TETRA, HEXA, PAIR, ("four", 2, ((1, 2),))):
            kind, n, _ = book
            desk = Desk(book)
            chance = random.Random(str(book))
            rows = [row for row in reference.all_rows(kind, n) if not reference.meet(kind, row, row)]
            for _ in range(5):
                row = chance.choice(rows)
                if row in rows_of(desk.book()):
                    self.refused(errors.InBook, row, desk, desk.neighbour, row)
                else:
                    self.check_deed(desk, neighbour_by(desk.book(), row), (), desk.neighbour, row)
        desk = Desk(PAIRS)
        self.check_deed(desk, ("two", 4, ((1, 0, 1, 0), (0, 1, 0, 1))), (), desk.neighbour, row=(1, 0, 1, 0))

    def test_turned_round(self):
        for book in BOOKS + (OCTAD, GOLAY):
            desk = Desk(book)
            self.check_deed(desk, partner_of(book), (), desk.turn_round)
            self.check_deed(desk, book, (), desk.turn_round)

    def test_laid_beside(self):
        for one, other in itertools.product(BOOKS + (OCTAD, OCTA, PAIR), repeat=2):
            desk = Desk(one)
            if one[0] != other[0]:
                self.refused(errors.OtherKind, other, desk, desk.lay_beside, other)
            else:
                self.check_deed(desk, beside(one, other), (), desk.lay_beside, other)
        desk = Desk(OCTAD)
        self.check_deed(desk, beside(OCTAD, OCTAD), (), desk.lay_beside, book=OCTAD)
        self.refused_bare(errors.TooLong, desk, desk.lay_beside, nought_book("two", 1))

    def test_thinned_and_shortened(self):
        for book in BOOKS + (OCTAD, OCTA, GOLAY):
            n = book[1]
            for places in ((), (0,), (n - 1,), tuple(range(1, n)), tuple(range(0, n - 1, 2))):
                if len(places) < n:
                    desk = Desk(book)
                    self.check_deed(desk, thinned(book, places), (), desk.thin, places)
                    desk = Desk(book)
                    self.check_deed(desk, shortened(book, places), (), desk.shorten, places=places)
        desk = Desk(PAIRS)
        self.check_deed(desk, PAIR, (), desk.thin, places=(0, 1))
        self.check_deed(desk, ("two", 1, ()), (), desk.shorten, (0,))

    def test_wrong_arguments(self):
        for value in JUNK:
            self.assert_bears(errors.BadBook, value, Desk, value)
            self.assert_bears(errors.BadBook, value, Desk, book=value)
        desk = desk_with(PAIRS, OWN, ("least", 2))
        desk.neighbour((1, 0, 1, 0))
        desk.undo()
        for value in JUNK:
            self.refused(errors.BadChange, value, desk, desk.lead, value)
            self.refused(errors.BadChange, value, desk, desk.lead, change=value)
            self.refused(errors.BadRow, value, desk, desk.put, value)
            self.refused(errors.BadRow, value, desk, desk.put, row=value)
            self.refused(errors.BadRow, value, desk, desk.neighbour, value)
            self.refused(errors.BadRow, value, desk, desk.neighbour, row=value)
            self.refused(errors.BadBook, value, desk, desk.lay_beside, value)
            self.refused(errors.BadBook, value, desk, desk.lay_beside, book=value)
            self.refused(errors.BadPlaces, value, desk, desk.thin, value)
            self.refused(errors.BadPlaces, value, desk, desk.thin, places=value)
            self.refused(errors.BadPlaces, value, desk, desk.shorten, value)
            self.refused(errors.BadPlaces, value, desk, desk.shorten, places=value)
        self.refused(errors.BadChange, ((0, 1), (1, 1)), desk, desk.lead, ((0, 1), (1, 1)))
        for row in ((1, 1), (1, 1, 0, 0, 0), (2, 0, 0, 0), [1, 1, 0, 0], (True, 1, 0, 0), ()):
            self.refused(errors.BadRow, row, desk, desk.put, row)
            self.refused(errors.BadRow, row, desk, desk.neighbour, row)
        for places in ((0, 1, 2, 3), (1, 0), (4,), [0], (True,)):
            self.refused(errors.BadPlaces, places, desk, desk.thin, places)
            self.refused(errors.BadPlaces, places, desk, desk.shorten, places)
        for change in mutants(((1, 0, 2, 3), (1, 1, 1, 1))):
            if not reference.is_right_change("two", 4, change):
                self.refused(errors.BadChange, change, desk, desk.lead, change)
        self.assertEqual((desk.undoable(), desk.redoable()), (2, 1))

    def test_neighbours_that_are_refused(self):
        for book in (RING, OCTA, nought_book("ring", 2)):
            desk = Desk(book)
            for row in (None, (0,) * book[1], ["row"]):
                self.refused(errors.OtherKind, book, desk, desk.neighbour, row)
        for book in (nought_book("two", 4), whole_book("three", 2), ("two", 3, ((1, 1, 0),))):
            desk = Desk(book)
            for row in (None, (1,) * book[1], (0,) * book[1]):
                before = everything(desk)
                with self.assertRaises(errors.NotOwn) as caught:
                    desk.neighbour(row)
                certificate = caught.exception.certificate
                self.assertTrue(own_holds(book, certificate) and certificate != OWN)
                self.assertEqual(everything(desk), before)
        desk = Desk(PAIRS)
        self.refused(errors.MeetsItself, (1, 0, 0, 0), desk, desk.neighbour, (1, 0, 0, 0))
        self.refused(errors.InBook, (1, 1, 0, 0), desk, desk.neighbour, (1, 1, 0, 0))
        desk = Desk(TETRA)
        self.refused(errors.MeetsItself, (1, 1, 0, 0), desk, desk.neighbour, (1, 1, 0, 0))

    def test_what_is_laid_beside_and_refused(self):
        desk = desk_with(OCTAD, OWN)
        desk.lay_beside(OCTAD)
        # The kind is looked at ahead of the length, and both ahead of the claims.
        self.refused(errors.OtherKind, TETRA, desk, desk.lay_beside, TETRA)
        self.refused_bare(errors.TooLong, desk, desk.lay_beside, nought_book("two", 1))
        desk = desk_with(OCTAD, OWN)
        self.refused(errors.Unkept, OWN, desk, desk.lay_beside, nought_book("two", 8))


class Claims(DeskCase):
    def all_claims(self, book):
        kind, n, _ = book
        chance = random.Random(str(book))
        yield from (OWN, NOUGHT, FOURFOLD, *(("least", d) for d in range(1, 17)))
        for row in rows_of(book)[:6] + reference.some_rows(chance, kind, n, 6):
            yield ("has", row)
        for other in reference.KINDS:
            yield ("has", reference.some_rows(chance, other, chance.randint(1, 16), 1)[0])
        yield from (("has", (0,) * (n + 1 if n < 16 else 1)), ("has", (3,) * n), ("has", (2,) * n))

    def test_kept_and_unkept(self):
        kept = 0
        for book in BOOKS + (OCTAD, OCTA, nought_book("two", 3), nought_book("ring", 16), ("three", 3, ((1, 1, 1),)),
                             beside(OCTAD, OCTAD), ("two", 5, ((1, 1, 1, 1, 0),)), ("two", 6, ((1, 1, 1, 1, 1, 1),))):
            for claim in self.all_claims(book):
                desk = Desk(book)
                if is_kept(book, claim):
                    kept += 1
                    self.check_deed(desk, book, (claim,), desk.claim, claim)
                else:
                    self.refused(errors.Unkept, claim, desk, desk.claim, claim)
                    self.refused(errors.Unkept, claim, desk, desk.claim, claim=claim)
        self.assertGreater(kept, 150)

    def test_claims_of_the_row_of_noughts_alone(self):
        desk = desk_with(nought_book("three", 5), ("least", 16), NOUGHT, ("has", (0,) * 5), ("least", 1))
        self.assertEqual(desk.claims(), (("least", 16), NOUGHT, ("has", (0,) * 5), ("least", 1)))
        self.refused(errors.Unkept, ("least", 16), desk, desk.put, (1, 0, 0, 0, 0))
        self.refused(errors.Unkept, FOURFOLD, desk, desk.claim, FOURFOLD)
        self.refused(errors.Unkept, ("has", (0,) * 4), desk, desk.claim, ("has", (0,) * 4))

    def test_no_claims(self):
        desk = desk_with(PAIRS, OWN)
        for value in NO_CLAIMS:
            self.refused(errors.BadClaim, value, desk, desk.claim, value)
            self.refused(errors.BadClaim, value, desk, desk.claim, claim=value)
            self.refused(errors.NoClaim, value, desk, desk.release, value)
            self.refused(errors.NoClaim, value, desk, desk.release, claim=value)

    def test_claims_that_are_there(self):
        desk = Desk(OCTAD)
        claims = (("least", 4), OWN, ("has", (1,) * 8), ("least", 1), FOURFOLD, NOUGHT)
        for at, claim in enumerate(claims):
            self.check_deed(desk, OCTAD, claims[:at + 1], desk.claim, claim=claim)
            for there in claims[:at + 1]:
                self.refused(errors.BadClaim, there, desk, desk.claim, there)
        self.refused(errors.BadClaim, ("least", True), desk, desk.claim, ("least", True))
        self.refused(errors.NoClaim, ("least", True), desk, desk.release, ("least", True))
        self.refused(errors.NoClaim, ("has", (True,) * 8), desk, desk.release, ("has", (True,) * 8))
        self.refused(errors.NoClaim, ("least", 2), desk, desk.release, ("least", 2))
        self.check_deed(desk, OCTAD, claims[:2] + claims[3:], desk.release, claims[2])
        self.refused(errors.NoClaim, claims[2], desk, desk.release, claims[2])
        self.check_deed(desk, OCTAD, claims[1:2] + claims[3:], desk.release, claim=claims[0])
        self.check_deed(desk, OCTAD, claims[1:2] + claims[3:] + claims[:1], desk.claim, claims[0])

    def test_each_deed_is_refused_for_a_claim(self):
        for claim, book, deeds in (
                (OWN, PAIRS, [("put", (1, 0, 0, 0)), ("lay_beside", ("two", 1, ())), ("thin", (0,)), ("shorten", (0,))]),
                (NOUGHT, ("two", 4, ((1, 1, 1, 1),)), [("put", (1, 0, 0, 0)), ("turn_round",), ("thin", (0,))]),
                (FOURFOLD, OCTAD, [("neighbour", (1, 1, 0, 0, 0, 0, 0, 0)), ("lay_beside", PAIR), ("thin", (3,))]),
                (("least", 4), OCTAD, [("neighbour", (1, 1, 0, 0, 0, 0, 0, 0)), ("thin", (7,)), ("lay_beside", PAIR)]),
                (("has", (1, 1, 0, 0)), PAIRS, [("lead", ((1, 2, 0, 3), (1,) * 4)), ("shorten", (0,)), ("neighbour", (1, 0, 1, 0)),
                                                ("lay_beside", PAIR), ("shorten", (3,)), ("thin", (1,))])):
            desk = desk_with(book, claim)
            for name, *arguments in deeds:
                self.refused(errors.Unkept, claim, desk, getattr(desk, name), *arguments)
            desk.release(claim)
            for name, *arguments in deeds:
                other = desk.copied()
                self.assertIsNone(getattr(other, name)(*arguments))
                self.assertEqual(other.undoable(), 1)
                self.assertFalse(is_kept(other.book(), claim))

    def test_the_first_unkept_claim_is_told(self):
        for claims in itertools.permutations((OWN, NOUGHT, ("least", 2), ("has", (1, 1, 0, 0)))):
            desk = desk_with(PAIRS, *claims)
            first = next(claim for claim in claims if claim != ("has", (1, 1, 0, 0)))
            self.refused(errors.Unkept, first, desk, desk.put, (1, 0, 0, 0))
            self.refused(errors.Unkept, ("has", (1, 1, 0, 0)), desk, desk.neighbour, (1, 0, 1, 0))
            self.refused(errors.Unkept, ("has", (1, 1, 0, 0)), desk, desk.lead, ((0, 2, 1, 3), (1,) * 4))

    def test_unkept_is_behind_all_other_errors(self):
        desk = desk_with(PAIRS, OWN, ("has", (1, 1, 0, 0)))
        self.refused(errors.MeetsItself, (1, 0, 0, 0), desk, desk.neighbour, (1, 0, 0, 0))
        self.refused(errors.OtherKind, TETRA, desk, desk.lay_beside, TETRA)
        self.refused(errors.BadPlaces, (0, 1, 2, 3), desk, desk.thin, (0, 1, 2, 3))
        self.refused(errors.BadClaim, OWN, desk, desk.claim, OWN)
        self.refused(errors.BadRow, (1, 0, 0), desk, desk.put, (1, 0, 0))


class Undone(DeskCase):
    def test_nothing_to_undo_or_redo(self):
        desk = Desk(PAIRS)
        self.refused_bare(errors.NothingToUndo, desk, desk.undo)
        self.refused_bare(errors.NothingToRedo, desk, desk.redo)
        desk.turn_round()
        self.refused_bare(errors.NothingToRedo, desk, desk.redo)
        desk.undo()
        self.refused_bare(errors.NothingToUndo, desk, desk.undo)
        desk.redo()
        self.refused_bare(errors.NothingToRedo, desk, desk.redo)

    def test_deeds_that_leave_an_equal_standing_count(self):
        desk = Desk(PAIRS)
        desk.turn_round()
        desk.put((0, 0, 0, 0))
        desk.thin(())
        self.assertEqual((standing(desk), desk.undoable()), ((PAIRS, ()), 3))

    def test_a_new_deed_behind_an_undone_one(self):
        desk = Desk(PAIRS)
        desk.claim(OWN)
        desk.neighbour((1, 0, 1, 0))
        desk.undo()
        desk.undo()
        self.assertEqual((standing(desk), desk.undoable(), desk.redoable()), ((PAIRS, ()), 0, 2))
        self.assertRaises(errors.BadClaim, desk.claim, None)
        self.assertRaises(errors.Unkept, desk.claim, FOURFOLD)
        self.assertEqual(desk.redoable(), 2)
        desk.redo()
        desk.release(OWN)
        self.assertEqual((standing(desk), desk.undoable(), desk.redoable()), ((PAIRS, ()), 2, 0))
        self.refused_bare(errors.NothingToRedo, desk, desk.redo)
        desk.undo()
        self.assertEqual(standing(desk), (PAIRS, (OWN,)))

    def test_released_and_undone(self):
        desk = desk_with(PAIRS, OWN)
        desk.release(OWN)
        desk.put((1, 0, 0, 0))
        desk.undo()
        desk.undo()
        self.refused(errors.Unkept, OWN, desk, desk.put, (1, 0, 0, 0))
        desk.redo()
        desk.redo()
        self.assertEqual(desk.claims(), ())
        self.refused(errors.Unkept, OWN, desk, desk.claim, OWN)

    def test_copies_go_their_own_way(self):
        desk = desk_with(OCTAD, OWN, ("least", 4))
        desk.undo()
        copy = desk.copied()
        self.assertIs(type(copy), Desk)
        self.assertEqual(everything(copy), (OCTAD, (OWN,), 0, 0, desk.text()))
        self.assertTrue(desk.is_same(copy) and copy.is_same(desk))
        before = everything(desk)
        copy.neighbour((1, 1, 0, 0, 0, 0, 0, 0))
        copy.release(OWN)
        copy.claim(("least", 1))
        self.assertEqual(everything(desk), before)
        self.assertFalse(desk.is_same(copy) or copy.is_same(desk))
        after = everything(copy)
        desk.redo()
        desk.lay_beside(OCTAD)
        self.assertEqual(everything(copy), after)

    def test_equal_standings(self):
        desks = [Desk(PAIRS), desk_with(PAIRS, OWN), desk_with(PAIRS, NOUGHT), desk_with(PAIRS, OWN, NOUGHT),
                 desk_with(PAIRS, NOUGHT, OWN), Desk(TETRA), Desk(nought_book("two", 4)), Desk(nought_book("three", 4)),
                 desk_with(PAIRS, ("least", 1)), desk_with(PAIRS, ("has", (1, 1, 0, 0)))]
        for (i, one), (j, other) in itertools.product(enumerate(desks), repeat=2):
            self.assert_is_bool(i == j, one.is_same(other))
        one, other = Desk(PAIRS), Desk(PAIRS)
        one.turn_round()
        self.assert_is_bool(True, one.is_same(thing=other))
        self.assert_is_bool(True, one.is_same(one))
        self.assert_is_bool(True, desk_with(PAIRS, OWN).is_same(DESK))
        for thing in JUNK + (PAIRS, (PAIRS, ()), (PAIRS, (OWN,)), "book two 4\n1100\n0011", Desk):
            if thing is not DESK:
                self.assert_is_bool(False, desk_with(PAIRS, OWN).is_same(thing))


class Model:
    """What a desk is to be: its standings, and at which of them it is."""

    def __init__(self, book):
        self.standings = [(book, ())]
        self.at = 0

    def now(self):
        return self.standings[self.at]

    def settle(self, book, claims):
        del self.standings[self.at + 1:]
        self.standings.append((book, claims))
        self.at += 1


class Walks(DeskCase):
    """Desks led through random deeds, refused ones among them."""

    def deed(self, chance, book, claims):
        """A deed: its name, its arguments, and the standing that it is to leave."""
        kind, n, _ = book
        row = reference.some_rows(chance, kind, n, 1)[0]
        name = chance.choice(("lead", "put", "neighbour", "turn_round", "lay_beside", "thin", "shorten", "claim", "claim", "release"))
        if name == "lead":
            change = random_change(chance, kind, n)
            return name, (change,), led(book, change), claims
        if name == "put":
            return name, (row,), joined(book, book_of(kind, n, (row,))), claims
        if name == "neighbour":
            return name, (row,), neighbour_by(book, row), claims
        if name == "turn_round":
            return name, (), partner_of(book), claims
        if name == "lay_beside":
            other = chance.choice((nought_book(kind, 1), book_of(kind, 2, ((1, 1),)), whole_book(kind, 1)))
            return name, (other,), beside(book, other), claims
        if name in ("thin", "shorten"):
            places = tuple(sorted(chance.sample(range(n), min(n - 1, chance.randint(0, 2)))))
            return name, (places,), (thinned if name == "thin" else shortened)(book, places), claims
        claim = chance.choice((OWN, NOUGHT, FOURFOLD, ("least", 1), ("least", 2), ("least", 3), ("has", row), ("has", (0,) * n)))
        if name == "claim":
            return name, (claim,), book, claims + (claim,) if claim not in claims else None
        return name, (claim,), book, tuple(one for one in claims if one != claim) if claim in claims else None

    def step(self, chance, desk, model):
        book, claims = model.now()
        before = everything(desk)
        try:
            name, arguments, due, left = self.deed(chance, book, claims)
        except errors.BookError as error:
            # A neighbour that there is not, or rows that would be too long.
            self.assertIn(type(error), (errors.OtherKind, errors.NotOwn, errors.MeetsItself, errors.InBook, errors.TooLong))
            return type(error).__name__
        if due[1] > 6 or how_many(due) > 256:
            return "too great"
        unkept = [claim for claim in left or () if not is_kept(due, claim)]
        try:
            self.assertIsNone(getattr(desk, name)(*arguments))
        except errors.BookError as error:
            self.assertEqual(everything(desk), before)
            if left is None:
                self.assertIs(type(error), errors.BadClaim if name == "claim" else errors.NoClaim)
                self.assertEqual(error.thing, arguments[0])
            else:
                self.assertIs(type(error), errors.Unkept)
                self.assertEqual(error.claim, unkept[0])
            return type(error).__name__
        self.assertTrue(left is not None and not unkept)
        model.settle(due, left)
        return name

    def back_or_forth(self, chance, desk, model):
        forth = chance.random() < 0.4
        due = model.at + 1 < len(model.standings) if forth else model.at > 0
        try:
            self.assertIsNone(desk.redo() if forth else desk.undo())
            self.assertTrue(due)
            model.at += 1 if forth else -1
        except errors.BookError as error:
            self.assertFalse(due)
            self.assertIs(type(error), errors.NothingToRedo if forth else errors.NothingToUndo)
            self.assertEqual(vars(error), {})

    def test_walks(self):
        seen = {}
        for number in range(150):
            chance = random.Random(f"walk {number}")
            book = chance.choice((PAIR, PAIRS, TETRA, RING, ("four", 2, ((1, 2),)), nought_book("two", 3), ("ring", 1, ((2,),)),
                                  ("two", 6, ((1, 1, 1, 1, 0, 0),)), whole_book("three", 2)))
            desk, model = Desk(book), Model(book)
            for _ in range(40):
                if chance.random() < 0.25:
                    self.back_or_forth(chance, desk, model)
                else:
                    word = self.step(chance, desk, model)
                    seen[word] = seen.get(word, 0) + 1
                self.assertEqual(standing(desk), model.now())
                self.assertEqual(desk.undoable(), model.at)
                self.assertEqual(desk.redoable(), len(model.standings) - 1 - model.at)
                if chance.random() < 0.1:
                    self.assertTrue(read_desk(desk.text()).is_same(desk))
        for word in ("lead", "put", "neighbour", "turn_round", "lay_beside", "thin", "shorten", "claim", "release", "Unkept",
                     "BadClaim", "NoClaim"):
            self.assertGreater(seen.get(word, 0), 10, word)

    def test_at_the_limits(self):
        begun = time.perf_counter()
        desk = desk_with(beside(OCTAD, OCTAD), OWN, NOUGHT, FOURFOLD, ("least", 4), ("least", 1), ("has", (1,) * 16), ("has", (0,) * 16))
        chance = random.Random("limits")
        for _ in range(53):
            desk.lead(random_change(chance, "two", 16))
        self.assertEqual(desk.undoable(), 60)
        self.assertEqual(read_desk(desk.text()).text(), desk.text())
        for _ in range(60):
            desk.undo()
        for _ in range(60):
            desk.redo()
        self.assertLess(time.perf_counter() - begun, 5)
        desk = Desk(own_through(nought_book("ring", 16)))
        self.assertEqual(read_desk(desk.text()).book(), desk.book())
        book = ("ring", 16, tuple((0,) * k + (2,) + (0,) * (15 - k) for k in range(8)))
        desk = desk_with(book, NOUGHT, ("least", 1), ("has", (2,) * 8 + (0,) * 8))
        desk.put((2,) + (0,) * 15)
        self.assertEqual(how_many(desk.book()), 256)
        self.assertLess(time.perf_counter() - begun, 10)


def first_wrong_line(text):
    """The number of the first wrong line of a text, by the words of [13.5]; None if there is none."""
    lines = text.split("\n")
    at = next((k for k in range(1, len(lines)) if lines[k] in ("own", "nought", "fourfold")
               or lines[k].startswith(("least ", "has "))), len(lines))
    try:
        book = read_book("\n".join(lines[:at]))
    except errors.BadText as error:
        return error.at
    right = {"own": OWN, "nought": NOUGHT, "fourfold": FOURFOLD}
    right.update({f"least {d}": ("least", d) for d in range(1, 17)})
    for k in range(at, len(lines)):
        line = lines[k]
        claim = right.get(line)
        if claim is None and line[:4] == "has " and 1 <= len(line[4:]) <= 16 and all(sign in "0123" for sign in line[4:]):
            claim = ("has", tuple(map(int, line[4:])))
        if claim is None or line in lines[:k] or not is_kept(book, claim):
            return k + 1
    return None


class Texts(DeskCase):
    DESKS = (Desk(PAIRS), desk_with(PAIRS, OWN), desk_with(OCTAD, ("least", 4), OWN, ("has", (1,) * 8), FOURFOLD, NOUGHT, ("least", 1)),
             desk_with(RING, OWN, ("has", (1, 1, 1, 1)), ("has", (3, 1, 1, 3))), desk_with(("ring", 2, ((2, 1), (0, 2))), ("least", 1)),
             desk_with(HEXA, ("least", 4), ("has", HEXA[2][0]), OWN), desk_with(nought_book("three", 3), ("least", 16), NOUGHT),
             desk_with(GOLAY, ("least", 6), OWN), desk_with(("four", 1, ((1,),)), ("has", (3,)), ("has", (2,)), ("least", 1)))

    def test_texts(self):
        self.assertEqual(self.DESKS[0].text(), "book two 4\n1100\n0011")
        self.assertEqual(self.DESKS[1].text(), "book two 4\n1100\n0011\nown")
        self.assertEqual(self.DESKS[2].text().split("\n")[5:], ["least 4", "own", "has 11111111", "fourfold", "nought", "least 1"])
        self.assertEqual(self.DESKS[3].text().split("\n")[4:], ["own", "has 1111", "has 3113"])
        self.assertEqual(self.DESKS[6].text(), "book three 3\nleast 16\nnought")

    def test_texts_that_are_read(self):
        for desk in self.DESKS:
            for found in (read_desk(desk.text()), read_desk(text=desk.text())):
                self.assertIs(type(found), Desk)
                self.assertTrue(same(standing(found), standing(desk)))
                self.assertEqual((found.undoable(), found.redoable()), (0, 0))
                self.assertIsNone(first_wrong_line(desk.text()))

    def check_text(self, text):
        due = first_wrong_line(text)
        if due is None:
            self.assertEqual(read_desk(text).text(), text)
        else:
            self.assert_bears(errors.BadText, due, read_desk, text)
            self.assert_bears(errors.BadText, due, read_desk, text=text)
        return due

    def spoilt(self, line):
        yield from ("", " ", line + " ", " " + line, line + "0", line + "1", line[:-1], line[1:], line.upper(), line + "\n", "own", "nought",
                    "fourfold", "least 1", "least 2", "least 3", "least 4", "least 16", "least 17", "least 0", "least 01", "least -1",
                    "least +1", "least  1", "least 1 ", "least", "least ", "least one", "has", "has ", "has 1", "has 0", "has  1", "has 11 ",
                    "has 1100", "has 11002", "has 1104", "has 0000", "has 1,1,0,0", "has " + "0" * 16, "has " + "0" * 17, "hast 1100",
                    "has 1100 0011", "Own", "own own", "ownn", "book two 4", "1100", "0011", "1010", "0000", "has 3333", "has 2000", "~")
        for k in range(len(line)):
            yield line[:k] + line[k + 1:]
            for sign in "0123 x":
                yield line[:k] + sign + line[k + 1:]

    def test_texts_spoilt_at_each_line(self):
        found = set()
        for desk in self.DESKS:
            lines = desk.text().split("\n")
            for at, line in enumerate(lines):
                for other in self.spoilt(line):
                    due = self.check_text("\n".join(lines[:at] + [other] + lines[at + 1:]))
                    found.add(None if due is None else due - at - 1)
                    self.check_text("\n".join(lines[:at] + [other] + lines[at:]))
                    self.check_text("\n".join(lines[:at + 1] + [other] + lines[at + 1:]))
                self.check_text("\n".join(lines[:at] + lines[at + 1:]))
                self.check_text("\n".join(lines[:at] + [line] + lines[at:]))
                self.check_text("\n".join(lines[:at] + lines[at + 1:] + [line]))
        self.assertLessEqual({None, 0, 1, 2}, found)

    def test_told_lines(self):
        for text, at in (("book two 2\n11\nleast 3", 3), ("own", 1), ("", 1), ("book two 2\nown", 2), ("book two 2\n11\nown\nown", 4),
                         ("book two 2\n11\nown\nleast 2\nown", 5), ("book two 2\n11\nown\n11", 4), ("book two 2\n11\nown\n", 4),
                         ("book two 2\n11\n\nown", 3), ("book ring 2\n21\nown", 3), ("book ring 2\n21\nleast x", 3),
                         ("book two 2\n01\n10\nown", 3), ("own\nbook two 2\n11", 1), ("book two 2\n11\nfourfold", 3),
                         ("book two 2\n11\nnought\nfourfold", 4), ("book two 2\n11\nhas 10", 3), ("book two 2\n11\nhas 110", 3),
                         ("book two 2\n12\nhas 110", 2), ("book two 17\nown", 1), ("book two 2\n11\nowner", 3)):
            self.assert_bears(errors.BadText, at, read_desk, text)
        desk = read_desk("book two 2\n11\nhas 00\nhas 11\nown\nnought\nleast 2\nleast 1")
        self.assertEqual(desk.claims(), (("has", (0, 0)), ("has", (1, 1)), OWN, NOUGHT, ("least", 2), ("least", 1)))

    def test_any_value(self):
        for value in JUNK + (b"book two 1", ["book two 1"], ("book two 1",), {"book two 1": 1}, PAIRS, DESK, 0, True):
            self.assert_bears(errors.BadText, 1 if isinstance(value, str) else 0, read_desk, value)
            self.assert_bears(errors.BadText, 1 if isinstance(value, str) else 0, read_desk, text=value)

    def test_desks_read_are_desks(self):
        desk = read_desk("book two 4\n1100\n0011\nown\nleast 2")
        self.refused(errors.Unkept, OWN, desk, desk.put, (1, 0, 0, 0))
        self.refused(errors.BadClaim, ("least", 2), desk, desk.claim, ("least", 2))
        self.check_deed(desk, PAIRS, (OWN,), desk.release, ("least", 2))
        self.assertTrue(is_book(desk.book()))


if __name__ == "__main__":
    unittest.main()
