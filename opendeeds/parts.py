"""Parts of books, and books made of others: beside, behind and in place of one another."""

from opendeeds.books import MOST_DEEDS, MOST_LOTS, check_book, check_state
from opendeeds.errors import BadSet, TooMany
from opendeeds.kinds import is_deed_set
from opendeeds.runs import check_deed


def numbered_in(deeds, lot):
    """Those of the deeds of a lot that are among these, told by their indexes there."""
    return tuple([deeds.index(deed) for deed in lot if deed in deeds])


def moved_on(lot, many):
    """The lot with each deed numbered so many further on."""
    return tuple([deed + many for deed in lot])


def done_first(book, state):
    """(book, deeds): what is left of the book when a state is done, and its deeds as they were."""
    check_book(book)
    check_state(book, state)
    left = tuple([deed for deed in range(len(book)) if deed not in state])
    if not left:
        return None, ()
    return tuple([tuple(sorted({numbered_in(left, lot) for lot in book[deed]})) for deed in left]), left


def check_some_deeds(book, deeds):
    """Raise BadSet for what is no ascending tuple of one or more deeds, of reach or not."""
    if not is_deed_set(deeds, len(book)) or not deeds:
        raise BadSet("this is no set of one or more deeds of the book")


def kept_alone(book, deeds):
    """The book of these deeds alone, without the lots that have other ones."""
    check_book(book)
    check_some_deeds(book, deeds)
    kept = [[lot for lot in book[deed] if all([other in deeds for other in lot])] for deed in deeds]
    return tuple([tuple([numbered_in(deeds, lot) for lot in entry]) for entry in kept])


def check_together(many):
    """Raise TooMany for more deeds than a book may have."""
    if many > MOST_DEEDS:
        raise TooMany(f"there are more than {MOST_DEEDS} deeds")


def put_behind(book, other, first):
    """The deeds of a book and then of another, each lot of which has the first deeds, too."""
    check_book(book)
    check_book(other)
    check_together(len(book) + len(other))
    return (*book, *[tuple([(*first, *moved_on(lot, len(book))) for lot in entry]) for entry in other])


def beside(book, other):
    """The book of the deeds of one and then those of another."""
    return put_behind(book, other, ())


def behind(book, other):
    """The book of the deeds of one and then those of another, each once all of the first are done."""
    check_book(book)
    return put_behind(book, other, tuple(range(len(book))))


def with_others(left, lot, deed, others):
    """The lot, numbered among the deeds that are left, with the others in place of the deed."""
    kept = numbered_in(left, lot)
    return (*kept, *others) if deed in lot else kept


def in_place(book, deed, other):
    """The book in which another one stands in place of a deed."""
    check_book(book)
    check_deed(book, deed)
    check_book(other)
    left = tuple([index for index in range(len(book)) if index != deed])
    check_together(len(left) + len(other))
    if max([len(book[deed]) * len(entry) for entry in other]) > MOST_LOTS:
        raise TooMany(f"a deed has more than {MOST_LOTS} lots")
    others = tuple(range(len(left), len(left) + len(other)))
    kept = [sorted([with_others(left, lot, deed, others) for lot in book[index]]) for index in left]
    outer = [numbered_in(left, lot) for lot in book[deed]]
    put = [sorted([(*lot, *moved_on(own, len(left))) for lot in outer for own in entry]) for entry in other]
    return tuple([tuple(entry) for entry in [*kept, *put]])
