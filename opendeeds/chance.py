"""Even chances: each time one of the deeds that may be done is done, each with the same chance."""

from math import gcd

from opendeeds.books import check_book
from opendeeds.kinds import check_number
from opendeeds.masks import deeds_of, lot_masks, mask_of, next_deeds, state_masks
from opendeeds.runs import check_reach_deed, check_run, check_two_deeds, reach

# Each of up to eight steps parts a share into one to eight like ones: these stay integers.
WHOLE = 840 ** 8


def fraction(top, bottom):
    """The fraction in least terms."""
    common = gcd(top, bottom)
    return top // common, bottom // common


def shares_to(masks):
    """For each state the share of WHOLE by which it is come to."""
    shares = {0: WHOLE}
    # Each state stands behind those that it is come to from, so its own share is whole by then.
    for state in state_masks(masks):
        ahead = next_deeds(masks, state)
        for deed in ahead:
            after = state | (1 << deed)
            shares[after] = shares.get(after, 0) + shares[state] // len(ahead)
    return shares


def shares_of_deed(masks, deed):
    """For each state the share of WHOLE by which the deed is done just behind it."""
    shares = shares_to(masks)
    found = {}
    for state in shares:
        ahead = next_deeds(masks, state)
        if deed in ahead:
            found[state] = shares[state] // len(ahead)
    return found


def run_chance(book, run):
    """The chance that the run made by even chance begins with a run."""
    check_book(book)
    check_run(book, run)
    masks = lot_masks(book)
    bottom = 1
    for index in range(len(run)):
        bottom = bottom * len(next_deeds(masks, mask_of(run[:index])))
    return 1, bottom


def state_chances(book, count):
    """The ascending list of (state, chance), by the states of so many deeds."""
    check_book(book)
    check_number(count, 0, len(reach(book)))
    shares = shares_to(lot_masks(book))
    chances = [(deeds_of(state), fraction(shares[state], WHOLE)) for state in shares]
    return sorted([(state, chance) for state, chance in chances if len(state) == count])


def ahead_chance(book, deed, other):
    """The chance that a deed of reach is done ahead of another one."""
    check_book(book)
    check_two_deeds(book, deed, other)
    shares = shares_of_deed(lot_masks(book), deed)
    return fraction(sum([shares[state] for state in shares if not state >> other & 1]), WHOLE)


def mean_place(book, deed):
    """The mean of the index of a deed of reach in the run made by even chance."""
    check_book(book)
    check_reach_deed(book, deed)
    shares = shares_of_deed(lot_masks(book), deed)
    return fraction(sum([shares[state] * len(deeds_of(state)) for state in shares]), WHOLE)
