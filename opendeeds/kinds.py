"""What integers and sets of deeds are, told of any object.

These functions look at the kind of a thing before they compare it: comparing
things that nobody has looked at could take for ever, or run foreign code.
They ask for type(thing), since isinstance lets bools and posing objects pass.
"""

from opendeeds.errors import BadNumber


def is_integer(thing):
    """Whether thing is an integer; True and False are none."""
    return type(thing) == int


def is_deed_set(thing, count):
    """Whether thing is an ascending tuple of deeds below count."""
    if type(thing) != tuple:
        return False
    last = -1
    for deed in thing:
        if not is_integer(deed) or not last < deed < count:
            return False
        last = deed
    return True


def check_number(thing, least, most):
    """Raise BadNumber for what is no integer from least to most."""
    if not is_integer(thing) or not least <= thing <= most:
        raise BadNumber(f"this is no integer from {least} to {most}")
