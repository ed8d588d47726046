"""Likenesses: the changes that lead a book to itself, place by place."""

from ownpartners.beginnings import TwoBooks, change_from, first_beginning, judged, next_beginnings, tree_holds
from ownpartners.books import check_book
from ownpartners.changes import is_change, led


def chain_beginnings(books):
    """For each place i the list of the beginnings ((0, 1), .., (i - 1, 1), (p, f)), in the order of a chain."""
    begun = first_beginning(books)
    found = []
    for _ in range(books.n):
        # The places that are left are those from i on, and the first one of these beginnings ends with (i, 1).
        nexts = next_beginnings(books, begun)
        found.append(nexts)
        begun = nexts[0]
    return found


def images_of(book):
    """The tuple of the ascending tuples of the images of all places."""
    check_book(book)
    books = TwoBooks(book, book)
    found = []
    for nexts in chain_beginnings(books):
        found.append(tuple([begun.pairs[-1] for begun in nexts if change_from(books, begun) is not None]))
    return tuple(found)


def likeness_number(book):
    """How many likenesses a book has."""
    number = 1
    for images in images_of(book):
        number = number * len(images)
    return number


def judge_chain(book):
    """A chain of a book."""
    check_book(book)
    books = TwoBooks(book, book)
    return tuple([tuple([judged(books, begun) for begun in nexts]) for nexts in chain_beginnings(books)])


def is_likeness(book, thing):
    """Whether any value is a likeness of a book."""
    check_book(book)
    return is_change(book[0], book[1], thing) and led(book, thing) == book


def begins_with(change, pairs):
    """Whether a change begins with some pairs (place led to, factor)."""
    return all(change[0][k] == pairs[k][0] and change[1][k] == pairs[k][1] for k in range(len(pairs)))


def link_holds(book, books, begun, thing):
    """Whether any value tells, as a link of a chain does, whether a likeness begins so."""
    if not isinstance(thing, tuple) or len(thing) != 2:
        return False
    word, proof = thing
    if word == "change":
        return is_likeness(book, proof) and begins_with(proof, begun.pairs)
    return word == "cases" and tree_holds(books, begun, proof)


def links_hold(book, books, nexts, thing):
    """Whether any value is the tuple of the links of a chain for one place."""
    if not isinstance(thing, tuple) or len(thing) != len(nexts):
        return False
    return all(link_holds(book, books, begun, link) for begun, link in zip(nexts, thing))


def chain_holds(book, thing):
    """Whether any value is a chain of a book."""
    check_book(book)
    if not isinstance(thing, tuple) or len(thing) != book[1]:
        return False
    books = TwoBooks(book, book)
    return all(links_hold(book, books, nexts, links) for nexts, links in zip(chain_beginnings(books), thing))
