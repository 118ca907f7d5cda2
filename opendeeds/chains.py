"""Sets of deeds, as unlike masks, by which lies within which: chains of them, and antichains.

Of a chain each set lies within the next; of an antichain none lies within another. The fewest
chains that have all of some sets are as many as the greatest antichain of them.
"""


def lies_within(mask, other):
    """Whether one set lies within another, unlike one."""
    return mask != other and mask & other == mask


def sets_around(masks):
    """For each of the sets the list of those of them that it lies within."""
    return {mask: [other for other in masks if lies_within(mask, other)] for mask in masks}


def find_link(around, mask, beneath, tried):
    """Link a set beneath one around it; a set that is linked there already gives way if it can.

    beneath has the links, from the upper set to the lower one; tried the sets that are asked.
    """
    for other in around[mask]:
        if other not in tried:
            tried[other] = True
            if other not in beneath or find_link(around, beneath[other], beneath, tried):
                beneath[other] = mask
                return True
    return False


def links_of(masks):
    """As many links as there can be, from a set to one within, no two from one set nor to one."""
    around = sets_around(masks)
    beneath = {}
    for mask in masks:
        find_link(around, mask, beneath, {})
    return beneath


def width_of(masks):
    """How many sets the greatest antichain of these has."""
    return len(masks) - len(links_of(masks))


def chain_below(beneath, top):
    """The chain, from its least set on, that the links lead down from its top."""
    chain = [top]
    while chain[0] in beneath:
        chain.insert(0, beneath[chain[0]])
    return chain


def chains_of(masks):
    """As few chains as can be that have each of the sets once."""
    beneath = links_of(masks)
    lower = list(beneath.values())
    return [chain_below(beneath, mask) for mask in masks if mask not in lower]


def first_antichain(masks):
    """The first greatest antichain, as lists of places among these sets compare."""
    wanted = width_of(masks)
    found = []
    left = list(masks)
    for mask in masks:
        if mask in left:
            beside = [
                other for other in left
                if other != mask and not lies_within(mask, other) and not lies_within(other, mask)
            ]
            if width_of(beside) == wanted - len(found) - 1:
                found.append(mask)
                left = beside
    return found
