"""Claims about books: what they are, whether a book keeps them, and their lines in texts."""

from ownpartners.books import has_row
from ownpartners.checks import is_length
from ownpartners.counts import least_weight
from ownpartners.own import is_fourfold, is_nought, is_own
from ownpartners.rows import is_row
from ownpartners.texts import read_length, read_row

WORDS = ("own", "nought", "fourfold")


def is_any_row(thing):
    """Whether any value is a row of some kind."""
    # The marks of all kinds are among those of "ring".
    return is_row("ring", thing)


def is_claim(thing):
    """Whether any value is a claim."""
    if not isinstance(thing, tuple) or not 1 <= len(thing) <= 2 or not isinstance(thing[0], str):
        return False
    if len(thing) == 1:
        return thing[0] in WORDS
    # A least weight is told as far as rows have marks.
    if thing[0] == "least":
        return is_length(thing[1])
    return thing[0] == "has" and is_any_row(thing[1])


def keeps_least(book, d):
    """Whether each row of a book, but the row of noughts, has at least a weight."""
    least = least_weight(book)
    return least is None or least >= d


def is_kept(book, claim):
    """Whether a book keeps a claim."""
    word = claim[0]
    if word == "own":
        return is_own(book)
    if word == "nought":
        return is_nought(book)
    if word == "fourfold":
        return is_fourfold(book)
    return keeps_least(book, claim[1]) if word == "least" else has_row(book, claim[1])


def claim_line(claim):
    """The line of a claim in a text."""
    if len(claim) == 1:
        return claim[0]
    word, told = claim
    if word == "least":
        return f"least {told}"
    return "has " + "".join([str(mark) for mark in told])


def begins_claim(line):
    """Whether a line is one of the words of claims, or begins as the line of a claim with more than a word does."""
    return line in WORDS or line.startswith("least ") or line.startswith("has ")


def read_claim(line):
    """The claim that a line tells; None if it tells none."""
    if line in WORDS:
        return (line,)
    word, _, told = line.partition(" ")
    if word == "least":
        d = read_length(told)
        return None if d is None else ("least", d)
    row = read_row("ring", len(told), told) if word == "has" and is_length(len(told)) else None
    return None if row is None else ("has", row)
