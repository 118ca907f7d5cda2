"""Books of orders and of runs, and the fewest runs that make a book."""

from opendeeds.books import check_book, check_count
from opendeeds.chains import chains_of, first_antichain
from opendeeds.errors import BadReach, BadRuns, BadSizes, NotOrder
from opendeeds.families import book_of_family, unions_of_beginnings, ways_by_deed
from opendeeds.kinds import check_pairs, is_deed_row
from opendeeds.masks import deeds_of, greatest_state, lot_masks, mask_of, next_deeds, state_masks
from opendeeds.runs import is_run

MOST_ROWS = 8


def order_book(count, pairs):
    """The book in which each deed has one lot: the deeds that stand ahead of it in the pairs."""
    check_count(count)
    check_pairs(pairs, count)
    ahead = [mask_of([deed for deed, other in pairs if other == behind]) for behind in range(count)]
    return tuple([(deeds_of(mask),) for mask in ahead])


def ways_of_book(book):
    """For each deed of the book the masks of the ways to it, none for a barred one."""
    return ways_by_deed(len(book), state_masks(lot_masks(book)))


def is_order(book):
    """Whether what each two states have in common is a state: each deed of reach has just one way."""
    check_book(book)
    return all([len(found) <= 1 for found in ways_of_book(book)])


def order_pairs(book):
    """The ascending list of (deed, other) such that the deed is ahead of the other in all full runs."""
    if not is_order(book):
        raise NotOrder("the book is no order")
    found = ways_of_book(book)
    pairs = [
        (deed, other)
        for other, ways in enumerate(found)
        for way in ways
        for deed in deeds_of(way)
        if deed != other
    ]
    return sorted(pairs)


def check_rows(count, runs):
    """Raise BadRuns for what is no tuple of one to eight tuples each of which has every deed once."""
    if type(runs) != tuple or not 1 <= len(runs) <= MOST_ROWS:
        raise BadRuns(f"this is no tuple of one to {MOST_ROWS} runs")
    if not all([is_deed_row(run, count) and len(run) == count for run in runs]):
        raise BadRuns("these are no runs of every one of so many deeds")


def of_runs(count, runs):
    """The least book whose states are the unions of beginnings of the runs."""
    check_count(count)
    check_rows(count, runs)
    return book_of_family(count, unions_of_beginnings(runs))


def check_whole(book):
    """Raise BadReach for a book that has a barred deed."""
    if greatest_state(lot_masks(book)) != (1 << len(book)) - 1:
        raise BadReach("the book has a deed that is not of reach")


def joined(book, other):
    """The least book whose states are the unions of a state of each of two books."""
    check_book(book)
    check_whole(book)
    check_book(other)
    if len(other) != len(book):
        raise BadSizes("the two books have not as many deeds")
    check_whole(other)
    more = state_masks(lot_masks(other))
    family = sorted({state | further for state in state_masks(lot_masks(book)) for further in more})
    return book_of_family(len(book), family)


def all_ways(book):
    """The masks of the ways to all deeds of a book, in the sequence of their tuples."""
    check_book(book)
    check_whole(book)
    found = sorted([deeds_of(way) for ways in ways_of_book(book) for way in ways])
    return [mask_of(way) for way in found]


def most_ways(book):
    """(number, ways): the most ways of which none lies within another, and the first tuple of so many."""
    found = first_antichain(all_ways(book))
    return len(found), tuple([deeds_of(way) for way in found])


def run_through(masks, chain):
    """The full run that comes to each state of a chain in turn."""
    run = ()
    for state in [*chain, greatest_state(masks)]:
        # Where a state lies within another, there is a deed of that one that may be done behind it.
        while mask_of(run) != state:
            ahead = [deed for deed in next_deeds(masks, mask_of(run)) if state >> deed & 1]
            run = (*run, ahead[0])
    return run


def runs_for(book):
    """A tuple of as few full runs as make the book: each state is a union of beginnings of them."""
    chains = chains_of(all_ways(book))
    masks = lot_masks(book)
    return tuple([run_through(masks, chain) for chain in chains])


def runs_make(book, thing):
    """Whether any object is a tuple of full runs of whose beginnings each state is a union."""
    wanted = all_ways(book)
    if type(thing) != tuple:
        return False
    found = set()
    for run in thing:
        if not is_run(book, run) or len(run) != len(book):
            return False
        for size in range(len(run)):
            found.add(mask_of(run[: size + 1]))
    # A way is a union of no other states, and each state is one of ways.
    return all([way in found for way in wanted])
