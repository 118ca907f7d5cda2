"""Sets of deeds as integers: the bit 1 << deed stands for the deed.

A book stands here as its masks: for each deed the list of its lots, each as
such an integer. Nothing is checked here.
"""


def mask_of(deeds):
    """The mask of these deeds."""
    mask = 0
    for deed in deeds:
        mask = mask | (1 << deed)
    return mask


def deeds_of(mask):
    """The ascending tuple of the deeds of a mask."""
    return tuple([deed for deed in range(mask.bit_length()) if mask >> deed & 1])


def lot_masks(book):
    """The masks of a book."""
    return [[mask_of(lot) for lot in entry] for entry in book]


def has_lot(lots, done):
    """Whether all deeds of one of the lots are done."""
    for lot in lots:
        if lot & done == lot:
            return True
    return False


def next_deeds(masks, done):
    """The ascending list of the deeds that may be done behind the done ones."""
    return [deed for deed, lots in enumerate(masks) if not done >> deed & 1 and has_lot(lots, done)]


def greatest_within(masks, wanted):
    """The mask of the greatest state that has none but wanted deeds."""
    done = 0
    # A round that does no deed is followed by none that does, so one for each deed is enough.
    for _ in range(len(masks)):
        done = done | (mask_of(next_deeds(masks, done)) & wanted)
    return done


def greatest_state(masks):
    """The mask of the greatest state: of the deeds of reach."""
    return greatest_within(masks, (1 << len(masks)) - 1)


def next_layer(masks, layer):
    """The ascending list of the states that one deed more makes of those in the layer."""
    return sorted({done | (1 << deed) for done in layer for deed in next_deeds(masks, done)})


def state_layers(masks):
    """The states of a book by their number of deeds: a list of lists of masks."""
    layers = []
    layer = [0]
    while layer:
        layers.append(layer)
        layer = next_layer(masks, layer)
    return layers


def state_masks(masks):
    """All states of a book, each behind those with fewer deeds."""
    return [state for layer in state_layers(masks) for state in layer]
