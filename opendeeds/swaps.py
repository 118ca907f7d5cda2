"""Exchanging neighbours in full runs, and going on from one state towards another."""

from opendeeds.books import check_book, check_state
from opendeeds.errors import TooMany
from opendeeds.kinds import is_integer
from opendeeds.masks import lot_masks, mask_of, next_deeds
from opendeeds.runs import MOST_RUNS, check_full_run, count_runs


def may_swap(masks, run, index):
    """Whether the deeds of a run at the index and next behind may be exchanged.

    Only the one behind can be too early there: what may be done behind some deeds may be done
    behind more.
    """
    return run[index + 1] in next_deeds(masks, mask_of(run[:index]))


def swaps_of(book, run):
    """The ascending list of the indexes at which exchanging neighbours gives a full run."""
    check_book(book)
    check_full_run(book, run)
    masks = lot_masks(book)
    return [index for index in range(len(run) - 1) if may_swap(masks, run, index)]


def check_two_runs(book, run, other):
    """Raise BadBook for what is no book, and BadRun for what is no full run of it."""
    check_book(book)
    check_full_run(book, run)
    check_full_run(book, other)


def swaps_between(book, run, other):
    """A list of indexes at which exchanging neighbours, one after the other, leads to the other run.

    Each deed of the other run is brought ahead to its place behind the ones before it. It may be
    done there, so it may be done at each place that it passes.
    """
    check_two_runs(book, run, other)
    now = list(run)
    found = []
    for place, deed in enumerate(other):
        start = now.index(deed)
        found = found + list(range(start - 1, place - 1, -1))
        now.remove(deed)
        now.insert(place, deed)
    return found


def swaps_hold(book, run, other, thing):
    """Whether any object is a list of indexes that leads from a full run to another."""
    check_two_runs(book, run, other)
    if type(thing) != list:
        return False
    masks = lot_masks(book)
    now = list(run)
    for index in thing:
        if not is_integer(index) or not 0 <= index < len(now) - 1 or not may_swap(masks, now, index):
            return False
        now[index], now[index + 1] = now[index + 1], now[index]
    return tuple(now) == other


def least_swaps(book, run, other):
    """How many exchanges of neighbours lead from a full run to another at least."""
    check_two_runs(book, run, other)
    if count_runs(book) > MOST_RUNS:
        raise TooMany(f"the book has more than {MOST_RUNS} full runs")
    places = [other.index(deed) for deed in run]
    return len([1 for index, place in enumerate(places) for later in places[index:] if later < place])


def goes_on(book, state, other):
    """The least deed of the other state that may be done behind the first; None if all are in that."""
    check_book(book)
    check_state(book, state)
    check_state(book, other)
    for deed in next_deeds(lot_masks(book), mask_of(state)):
        if deed in other:
            return deed
    return None
