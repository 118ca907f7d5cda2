"""What integers and sets of deeds are, told of any object.

These functions look at the kind of a thing before they compare it: comparing
things that nobody has looked at could take for ever, or run foreign code.
They ask for type(thing), since isinstance lets bools and posing objects pass.
"""

from opendeeds.errors import BadNumber, BadPairs


def is_integer(thing):
    """Whether thing is an integer; True and False are none."""
    return type(thing) == int


def is_deed_set(thing, count):
    """Whether thing is an ascending tuple of deeds below count."""
    if type(thing) != tuple:
        return False
    last = -1
    for deed in thing:
        if not is_integer(deed) or not last < deed < count:
            return False
        last = deed
    return True


def is_deed_row(thing, count):
    """Whether thing is a tuple of unlike deeds below count, in any sequence."""
    if type(thing) != tuple or len(thing) > count:
        return False
    if not all([is_integer(deed) and 0 <= deed < count for deed in thing]):
        return False
    return len(set(thing)) == len(thing)


def are_pairs(thing, count):
    """Whether thing is a tuple of pairs of unlike deeds, or places, below count."""
    if type(thing) != tuple:
        return False
    return all([is_deed_row(pair, count) and len(pair) == 2 for pair in thing])


def check_pairs(thing, count):
    """Raise BadPairs for what is no tuple of pairs of unlike deeds, or places, below count."""
    if not are_pairs(thing, count):
        raise BadPairs("these are no pairs of so many")


def check_number(thing, least, most):
    """Raise BadNumber for what is no integer from least to most."""
    if not is_integer(thing) or not least <= thing <= most:
        raise BadNumber(f"this is no integer from {least} to {most}")
