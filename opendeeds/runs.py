"""Runs of books: what they are, which deeds they do, how many there are, and their numbers."""

from opendeeds.books import check_book, check_state
from opendeeds.errors import BadDeed, BadRun, TooMany
from opendeeds.kinds import check_number, is_deed_set, is_integer
from opendeeds.masks import deeds_of, greatest_state, lot_masks, mask_of, next_deeds
from opendeeds.tallies import counts_on, counts_to

MOST_RUNS = 500


def is_run(book, thing):
    """Whether any object is a run of the book."""
    check_book(book)
    if type(thing) != tuple:
        return False
    masks = lot_masks(book)
    done = 0
    for deed in thing:
        if not is_integer(deed) or deed not in next_deeds(masks, done):
            return False
        done = done | (1 << deed)
    return True


def check_run(book, run):
    """Raise BadRun for what is no run of the book."""
    if not is_run(book, run):
        raise BadRun("this is no run of the book")


def check_full_run(book, run):
    """Raise BadRun for what is no run of the book, and for a run that is not full."""
    if not is_run(book, run) or next_deeds(lot_masks(book), mask_of(run)):
        raise BadRun("this is no full run of the book")


def reach(book):
    """The ascending tuple of the deeds of full runs."""
    check_book(book)
    return deeds_of(greatest_state(lot_masks(book)))


def barred(book):
    """The ascending tuple of the deeds that no run does."""
    within = reach(book)
    return tuple([deed for deed in range(len(book)) if deed not in within])


def check_deed(book, deed):
    """Raise BadDeed for what is no deed of the book."""
    if not is_integer(deed) or not 0 <= deed < len(book):
        raise BadDeed("this is no deed of the book")


def check_reach_deed(book, deed):
    """Raise BadDeed for what is no deed of reach."""
    if not is_integer(deed) or deed not in reach(book):
        raise BadDeed("this is no deed of reach")


def check_two_deeds(book, deed, other):
    """Raise BadDeed for what are no two unlike deeds of reach."""
    check_reach_deed(book, deed)
    check_reach_deed(book, other)
    if other == deed:
        raise BadDeed("the two deeds are one")


def bar_of(book, deed):
    """Deeds that keep one another, this one among them, from being done; None for a deed of reach."""
    check_book(book)
    check_deed(book, deed)
    bar = barred(book)
    # A lot without a barred deed would be done in the end, and the deed behind it.
    return bar if deed in bar else None


def bar_holds(book, deed, thing):
    """Whether any object is an ascending tuple of deeds that keep this one from being done."""
    check_book(book)
    check_deed(book, deed)
    if not is_deed_set(thing, len(book)) or deed not in thing:
        return False
    masks = lot_masks(book)
    bar = mask_of(thing)
    return all([lot & bar != 0 for other in thing for lot in masks[other]])


def count_runs(book):
    """How many full runs there are."""
    check_book(book)
    return counts_on(lot_masks(book))[0]


def first_run(book):
    """The first full run as tuples compare."""
    return run_at(book, 0)


def runs(book):
    """The ascending list of all full runs."""
    if count_runs(book) > MOST_RUNS:
        raise TooMany(f"the book has more than {MOST_RUNS} full runs")
    masks = lot_masks(book)
    found = [()]
    # All full runs have the same deeds, and each run is the beginning of one.
    for _ in reach(book):
        found = [(*run, deed) for run in found for deed in next_deeds(masks, mask_of(run))]
    return found


def run_at(book, number):
    """The full run with this index in the ascending list of all."""
    check_book(book)
    masks = lot_masks(book)
    counts = counts_on(masks)
    check_number(number, 0, counts[0] - 1)
    run = ()
    ahead = number
    for _ in reach(book):
        done = mask_of(run)
        for deed in next_deeds(masks, done):
            many = counts[done | (1 << deed)]
            if ahead < many:
                break
            ahead = ahead - many
        run = (*run, deed)
    return run


def number_of(book, run):
    """The index of a full run in the ascending list of all."""
    check_book(book)
    check_full_run(book, run)
    masks = lot_masks(book)
    counts = counts_on(masks)
    ahead = 0
    done = 0
    for deed in run:
        lesser = [other for other in next_deeds(masks, done) if other < deed]
        ahead = ahead + sum([counts[done | (1 << other)] for other in lesser])
        done = done | (1 << deed)
    return ahead


def runs_through(book, state):
    """How many full runs come to a state."""
    check_book(book)
    check_state(book, state)
    masks = lot_masks(book)
    done = mask_of(state)
    return counts_to(masks)[done] * counts_on(masks)[done]


def runs_ahead(book, deed, other):
    """How many full runs have a deed of reach ahead of another one."""
    check_book(book)
    check_two_deeds(book, deed, other)
    masks = lot_masks(book)
    to = counts_to(masks)
    on = counts_on(masks)
    total = 0
    for done in to:
        if not done >> other & 1 and deed in next_deeds(masks, done):
            total = total + to[done] * on[done | (1 << deed)]
    return total
