"""How many ways lead to the states of a book and on from them, by their masks.

A book stands here as its masks. Nothing is checked here.
"""

from opendeeds.masks import next_deeds, state_layers, state_masks


def counts_to(masks):
    """For each state, in how many sequences its deeds may be done."""
    counts = {0: 1}
    # Each state stands behind those that it is come to from, so its own count is whole by then.
    for state in state_masks(masks):
        for deed in next_deeds(masks, state):
            after = state | (1 << deed)
            counts[after] = counts.get(after, 0) + counts[state]
    return counts


def counts_on(masks):
    """For each state, how many full runs go on from it, itself counting if nothing may be done."""
    counts = {}
    for layer in reversed(state_layers(masks)):
        for state in layer:
            after = [state | (1 << deed) for deed in next_deeds(masks, state)]
            counts[state] = sum([counts[further] for further in after]) if after else 1
    return counts
