"""Shut sets: what is left of the deeds of reach when a state is done."""

from opendeeds.books import check_book
from opendeeds.errors import BadDeed, BadSet, BadShut
from opendeeds.kinds import is_deed_set
from opendeeds.masks import deeds_of, greatest_state, greatest_within, lot_masks, mask_of
from opendeeds.masks import next_deeds, state_masks
from opendeeds.runs import check_reach_deed, reach


def shut_within(masks, deeds):
    """The mask of the least shut set that has these deeds of reach, as a mask, within."""
    within = greatest_state(masks)
    return within ^ greatest_within(masks, within ^ deeds)


def is_reach_set(book, thing):
    """Whether thing is an ascending tuple of deeds of reach."""
    if not is_deed_set(thing, len(book)):
        return False
    within = reach(book)
    return all([deed in within for deed in thing])


def is_shut(book, thing):
    """Whether any object is a shut set of the book."""
    check_book(book)
    if not is_reach_set(book, thing):
        return False
    deeds = mask_of(thing)
    return shut_within(lot_masks(book), deeds) == deeds


def check_shut(book, shut):
    """Raise BadShut for what is no shut set of the book."""
    if not is_shut(book, shut):
        raise BadShut("this is no shut set of the book")


def check_set(book, deeds):
    """Raise BadSet for what is no ascending tuple of deeds of reach."""
    if not is_reach_set(book, deeds):
        raise BadSet("this is no set of the book")


def shut_sets(book):
    """The ascending list of all shut sets."""
    check_book(book)
    masks = lot_masks(book)
    within = greatest_state(masks)
    return sorted([deeds_of(within ^ state) for state in state_masks(masks)])


def left_by(book, deeds):
    """The greatest state without any deed of a set."""
    check_book(book)
    check_set(book, deeds)
    masks = lot_masks(book)
    return deeds_of(greatest_within(masks, greatest_state(masks) ^ mask_of(deeds)))


def closure(book, deeds):
    """The least shut set that has a set within."""
    check_book(book)
    check_set(book, deeds)
    return deeds_of(shut_within(lot_masks(book), mask_of(deeds)))


def brings(book, deeds, deed):
    """Whether the closure of a set has a deed of reach."""
    check_book(book)
    check_set(book, deeds)
    check_reach_deed(book, deed)
    return deed in closure(book, deeds)


def corners(book, shut):
    """The ascending tuple of the deeds of a shut set without each of which it is shut."""
    check_book(book)
    check_shut(book, shut)
    masks = lot_masks(book)
    return tuple(next_deeds(masks, greatest_state(masks) ^ mask_of(shut)))


def bare_sets(book):
    """The ascending list of the sets that are all corners of their closures."""
    check_book(book)
    masks = lot_masks(book)
    # The corners of a shut set tell it, and no set but they is bare and has it as its closure.
    return sorted([tuple(next_deeds(masks, state)) for state in state_masks(masks)])


def needs(book, deeds, deed):
    """The ascending list of the least parts of a set that bring a deed of its closure in."""
    check_book(book)
    check_set(book, deeds)
    check_reach_deed(book, deed)
    masks = lot_masks(book)
    whole = mask_of(deeds)
    if not shut_within(masks, whole) >> deed & 1:
        raise BadDeed("the closure of the set has no such deed")
    parts = [part for part in range(whole + 1) if part & whole == part]
    bringing = {part for part in parts if shut_within(masks, part) >> deed & 1}
    # More deeds bring no less in, so it is enough to leave out one deed at a time.
    least = [
        part for part in sorted(bringing)
        if not any([part ^ (1 << other) in bringing for other in deeds_of(part)])
    ]
    return sorted([deeds_of(part) for part in least])
