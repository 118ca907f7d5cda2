"""Costs of deeds by when they are done: runs by which they are least, days to keep, weights."""

from opendeeds.books import MOST_DEEDS, check_book
from opendeeds.errors import BadCosts, BadDays, BadWeights
from opendeeds.kinds import is_integer
from opendeeds.masks import deeds_of, lot_masks, mask_of, next_deeds, state_layers, state_masks
from opendeeds.runs import check_full_run, reach


def is_price_list(thing, size):
    """Whether thing is a tuple of so many integers, none greater than the one ahead of it."""
    if type(thing) != tuple or len(thing) != size or not all([is_integer(cost) for cost in thing]):
        return False
    return not any([thing[index] > thing[index - 1] for index in range(1, size)])


def check_costs(book, costs):
    """Raise BadCosts for what is no costs of the book."""
    if type(costs) != tuple or len(costs) != len(book):
        raise BadCosts("these are no costs of so many deeds")
    size = len(reach(book))
    if not all([is_price_list(entry, size) for entry in costs]):
        raise BadCosts("these are no integers for each deed by which none becomes dearer")


def worst_cost(costs, run):
    """The greatest cost in a run, 0 for ()."""
    return max([costs[deed][index] for index, deed in enumerate(run)], default=0)


def worst_of(book, costs, run):
    """The greatest cost in a full run, 0 for ()."""
    check_book(book)
    check_costs(book, costs)
    check_full_run(book, run)
    return worst_cost(costs, run)


def least_worst(book, costs):
    """(worst, run): the run in which each time the cheapest deed is done, the least one of several."""
    check_book(book)
    check_costs(book, costs)
    masks = lot_masks(book)
    run = ()
    for index in range(len(reach(book))):
        ahead = [(costs[deed][index], deed) for deed in next_deeds(masks, mask_of(run))]
        _, cheapest = min(ahead)
        run = (*run, cheapest)
    return worst_cost(costs, run), run


def least_total(masks, costs):
    """(total, run): the least sum of what the deeds of a full run cost, and the first run of that sum.

    Here costs may grow, too. What goes on best from a state is the same however it was come to.
    """
    best = {}
    layers = state_layers(masks)
    for index in reversed(range(len(layers))):
        for state in layers[index]:
            ahead = []
            for deed in next_deeds(masks, state):
                total, run = best[state | (1 << deed)]
                ahead.append((costs[deed][index] + total, (deed, *run)))
            best[state] = min(ahead, default=(0, ()))
    return best[0]


def check_days(book, days):
    """Raise BadDays for what is no days of the book."""
    if type(days) != tuple or len(days) != len(book):
        raise BadDays("these are no days of so many deeds")
    if not all([is_integer(day) and 1 <= day <= MOST_DEEDS for day in days]):
        raise BadDays(f"these are no days from 1 to {MOST_DEEDS}")


def fewest_late(book, days):
    """(number, run): the least number of late deeds of all full runs, and a run with so many."""
    check_book(book)
    check_days(book, days)
    late = [[1 if index >= day else 0 for index in range(MOST_DEEDS)] for day in days]
    return least_total(lot_masks(book), late)


def met_by(book, days):
    """A full run in which no deed is late, None if there is none."""
    number, run = fewest_late(book, days)
    return run if number == 0 else None


def late_deeds(book, days, run):
    """The ascending tuple of the deeds that are late in a full run."""
    check_book(book)
    check_days(book, days)
    check_full_run(book, run)
    return tuple(sorted([deed for index, deed in enumerate(run) if index >= days[deed]]))


def least_late(book, days):
    """The least number of late deeds of all full runs."""
    number, _ = fewest_late(book, days)
    return number


def check_weights(book, weights):
    """Raise BadWeights for what is no weights of the book."""
    if type(weights) != tuple or len(weights) != len(book):
        raise BadWeights("these are no weights of so many deeds")
    if not all([is_integer(weight) for weight in weights]):
        raise BadWeights("these weights are no integers")


def least_sum(book, weights):
    """(sum, run): the least sum of each deed's weight times its index in a full run, the first such."""
    check_book(book)
    check_weights(book, weights)
    costs = [[weight * index for index in range(MOST_DEEDS)] for weight in weights]
    return least_total(lot_masks(book), costs)


def best_state(book, weights):
    """(sum, state): the greatest sum of weights of a state, and the first state that has it."""
    check_book(book)
    check_weights(book, weights)
    found = [deeds_of(mask) for mask in state_masks(lot_masks(book))]
    # The least loss, not the greatest gain, so that of several states the first is taken.
    lost, best = min([(-sum([weights[deed] for deed in state]), state) for state in found])
    return -lost, best
