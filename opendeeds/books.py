"""Books of lots: what they are, what may be done, and which states they have."""

from opendeeds.errors import BadBook, BadDone, BadState
from opendeeds.kinds import check_number, is_deed_set
from opendeeds.masks import deeds_of, greatest_within, lot_masks, mask_of
from opendeeds.masks import next_deeds, state_layers, state_masks

MOST_DEEDS = 8
MOST_LOTS = 40


def check_count(count):
    """Raise BadNumber for what is no number of deeds, or of places, of a book."""
    check_number(count, 1, MOST_DEEDS)


def is_lot(thing, deed, count):
    """Whether thing can be a lot of the deed in a book of count deeds."""
    return is_deed_set(thing, count) and deed not in thing


def is_entry(thing, deed, count):
    """Whether thing can be the entry of the deed in a book of count deeds."""
    if type(thing) != tuple or len(thing) > MOST_LOTS:
        return False
    for index, lot in enumerate(thing):
        if not is_lot(lot, deed, count):
            return False
        if index > 0 and not thing[index - 1] < lot:
            return False
    return True


def is_book(thing):
    """Whether any object is a book."""
    if type(thing) != tuple or not 1 <= len(thing) <= MOST_DEEDS:
        return False
    for deed, entry in enumerate(thing):
        if not is_entry(entry, deed, len(thing)):
            return False
    return True


def check_book(book):
    """Raise BadBook for what is no book."""
    if not is_book(book):
        raise BadBook("this is no book")


def check_done(book, done):
    """Raise BadDone for what is no done set of the book."""
    if not is_deed_set(done, len(book)):
        raise BadDone("this is no done set of the book")


def may(book, done):
    """The ascending list of the deeds that may be done behind a done set."""
    check_book(book)
    check_done(book, done)
    return next_deeds(lot_masks(book), mask_of(done))


def is_state(book, thing):
    """Whether any object is a state of the book."""
    check_book(book)
    if not is_deed_set(thing, len(book)):
        return False
    wanted = mask_of(thing)
    return greatest_within(lot_masks(book), wanted) == wanted


def check_state(book, state):
    """Raise BadState for what is no state of the book."""
    if not is_state(book, state):
        raise BadState("this is no state of the book")


def states(book):
    """The ascending list of all states."""
    check_book(book)
    return sorted([deeds_of(state) for state in state_masks(lot_masks(book))])


def state_counts(book):
    """The list of how many states have 0, 1, .. deeds."""
    check_book(book)
    return [len(layer) for layer in state_layers(lot_masks(book))]
