"""Families: the states of a book as a list of masks, each once, and the least book of them.

A family has the empty set, each other set of it is one of it and one deed more, and it has the
union of each two. Nothing is checked here.
"""

from opendeeds.masks import deeds_of, mask_of


def ways_by_deed(count, family):
    """For each of count deeds the ways to it: the sets of the family with it that have no other within.

    These are the sets with just one deed without which they are in the family. A set with the deed
    that can do without another one is no way to it; and from a lesser set with it, any set with it
    is come to by deeds the last of which it can do without.
    """
    known = set(family)
    found = [[] for _ in range(count)]
    for way in family:
        ends = [deed for deed in deeds_of(way) if way ^ (1 << deed) in known]
        if len(ends) == 1:
            found[ends[0]].append(way)
    return found


def entry_of_ways(deed, ways):
    """The entry of the deed whose lots are these ways to it."""
    return tuple(sorted([deeds_of(way ^ (1 << deed)) for way in ways]))


def book_of_family(count, family):
    """The least book of count deeds whose states are the family."""
    found = ways_by_deed(count, family)
    return tuple([entry_of_ways(deed, ways) for deed, ways in enumerate(found)])


def unions_of_beginnings(runs):
    """The family of the unions of a beginning, perhaps an empty one, of each of the runs."""
    found = [0]
    for run in runs:
        beginnings = [mask_of(run[:size]) for size in range(len(run) + 1)]
        found = sorted({state | beginning for state in found for beginning in beginnings})
    return found
