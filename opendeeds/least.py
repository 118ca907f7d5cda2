"""Ways to deeds, least books, and books of families of sets."""

from itertools import combinations

from opendeeds.books import check_book, check_count, states
from opendeeds.errors import BadFamily, BadSizes
from opendeeds.families import book_of_family, ways_by_deed
from opendeeds.kinds import is_deed_set
from opendeeds.masks import deeds_of, lot_masks, mask_of, state_masks
from opendeeds.runs import check_reach_deed

MOST_SETS = 256


def ways(book, deed):
    """The ascending list of the states with a deed of reach that have no other such state within."""
    check_book(book)
    check_reach_deed(book, deed)
    found = ways_by_deed(len(book), state_masks(lot_masks(book)))
    return sorted([deeds_of(way) for way in found[deed]])


def least_book(book):
    """The book with the same states in which each deed has its ways as lots."""
    check_book(book)
    return book_of_family(len(book), state_masks(lot_masks(book)))


def unlike_states(book, other):
    """The ascending list of the states that just one of two books of as many deeds has."""
    check_book(book)
    check_book(other)
    if len(other) != len(book):
        raise BadSizes("the two books have not as many deeds")
    return sorted(set(states(book)) ^ set(states(other)))


def are_alike(book, other):
    """Whether two books of as many deeds have the same states."""
    return not unlike_states(book, other)


def unlike_state(book, other):
    """The first state that just one of two books of as many deeds has, None if there is none."""
    unlike = unlike_states(book, other)
    return unlike[0] if unlike else None


def needed_lots(lots, ways_to):
    """Those of the lots of a deed, as masks, without which a way to it would be none.

    Without a lot the states are the same just if no way has this lot alone within: any other state
    is still come to by a deed that is not the one of the lot, or by another lot.
    """
    within = [[lot for lot in lots if lot & way == lot] for way in ways_to]
    return [found[0] for found in within if len(found) == 1]


def spare_lots(book):
    """The ascending list of (deed, lot) of the lots each of which the states do not need."""
    check_book(book)
    masks = lot_masks(book)
    found = ways_by_deed(len(book), state_masks(masks))
    needed = [needed_lots(lots, found[deed]) for deed, lots in enumerate(masks)]
    return [
        (deed, lot)
        for deed, entry in enumerate(book)
        for lot in entry
        if mask_of(lot) not in needed[deed]
    ]


def check_family(count, family):
    """Raise BadNumber for no number of deeds, BadFamily for what is no family of so many."""
    check_count(count)
    if type(family) not in (list, tuple) or len(family) > MOST_SETS:
        raise BadFamily("this is no list or tuple of so few sets")
    if not all([is_deed_set(entry, count) for entry in family]):
        raise BadFamily("this is no family of sets of so many deeds")


def first_step_fault(found):
    """The first of these ascending sets but () that has no deed without which it is among them."""
    known = {mask_of(entry) for entry in found}
    for entry in found:
        mask = mask_of(entry)
        if entry and not any([mask ^ (1 << deed) in known for deed in entry]):
            return entry
    return None


def first_union_fault(found):
    """The first pair of these ascending sets, as tuples compare, whose union is not among them."""
    known = {mask_of(entry) for entry in found}
    for entry, other in combinations(found, 2):
        if mask_of(entry) | mask_of(other) not in known:
            return entry, other
    return None


def family_fault(count, family):
    """The first fault that keeps a family from being the states of a book, None if there is none."""
    check_family(count, family)
    found = sorted(set(family))
    if () not in found:
        return ("none",)
    entry = first_step_fault(found)
    if entry is not None:
        return ("step", entry)
    pair = first_union_fault(found)
    return None if pair is None else ("union", *pair)


def book_of(count, family):
    """The least book of count deeds whose states are the family, None if there is none."""
    if family_fault(count, family) is not None:
        return None
    return book_of_family(count, [mask_of(entry) for entry in sorted(set(family))])
