"""Books and things for the tests, and what the document's words say of them, taken word by word."""

import faulthandler
import itertools
import random
import sys
import unittest

B = (((),), ((0,), (2,)), ((),))
NEVER = ((), ((0,),), ((),))
EACH_OTHER = (((1,),), ((0,),))
FREE = (((),),) * 8
CHAIN = (((),),) + tuple(((deed - 1,),) for deed in range(1, 8))
ONE = ((),)
NO_LOTS = ((),) * 8

# Barred are 3, 4 and 5, each of which waits for another of them or for 6, and 6, without lots.
HALF_BARRED = (((),), ((0,), (3,)), ((),), ((4,), (5, 6)), ((3,),), ((0, 4), (6,)), (), ((1,), (2,)))

# Books with so many full runs.
RUNS_499 = (
    ((2, 4), (5, 7)), ((3, 4),), ((),), ((4,),), ((),), ((2,),), ((1, 2),), ((),),
)
RUNS_500 = (((4,),), ((2, 5), (6,)), ((),), ((4,),), ((),), ((4,),), ((4,),))
RUNS_501 = (
    ((3,),), ((2, 6),), ((),), ((7,),), ((0,), (5,)), ((1, 7), (2, 7)), ((),), ((),),
)


def subsets(things):
    """All subsets of ascending things, as an ascending list of tuples."""
    return sorted(
        chosen for size in range(len(things) + 1) for chosen in itertools.combinations(things, size)
    )


def lots_of(deed, count):
    """All lots that the deed can have among count deeds, ascending."""
    return subsets([other for other in range(count) if other != deed])


FORTY = (tuple(lots_of(0, 8)[:40]),) + ((),) * 7
FORTY_ONE = (tuple(lots_of(0, 8)[:41]),) + ((),) * 7

# The last deed has forty lots, of which the first, (), makes all others spare.
FORTY_LAST = (((),),) * 7 + (tuple(lots_of(7, 8)[:40]),)
# Here it has the thirty-five lots of three other deeds, none of which lies within another.
THREE_OF_SEVEN = (((),),) * 7 + (tuple(itertools.combinations(range(7), 3)),)


WRONG_BOOKS = {
    "no entries": (),
    "nine entries": ((),) * 9,
    "nine entries with lots": (((),),) * 9,
    "many entries": ((),) * 1000,
    "forty-one lots": FORTY_ONE,
    "lots not ascending": (((1,), ()), ()),
    "lots not ascending at the end": (((), (1, 2), (2,), (1,)), (), ()),
    "lots by their length": (((1,), (2,), (1, 2)), (), ()),
    "the lot () twice": (((), ()),),
    "a lot twice": (((1,), (1,)), ()),
    "a lot twice, behind another": (((), (1,), (1,)), ()),
    "deeds not ascending": (((2, 1),), (), ()),
    "a deed twice": (((1, 1),), ()),
    "its own deed": (((0,),),),
    "its own deed, of the last": ((), ((1,),)),
    "its own deed first": (((0, 1),), ()),
    "its own deed last": ((), ((0, 1),)),
    "its own deed amid": ((), ((0, 1, 2),), ()),
    "its own deed in the second lot": (((), (0,)), ()),
    "a deed beyond, of one": (((1,),),),
    "a deed beyond": (((2,),), ()),
    "a deed beyond, behind another": (((1, 2),), ()),
    "a deed far beyond": (((10**29,),), ()),
    "a deed beyond eight": (((8,),), (), (), (), (), (), (), ()),
    "a deed below": (((-1,),), ()),
    "a deed below ahead of another": (((-1, 1),), ()),
    "True for 1": (((True,),), ()),
    "True for 1 behind 0": ((), (), ((0, True),)),
    "False for 0": ((), ((False,),)),
    "a list of entries": [((),)],
    "a list for an entry": ([],),
    "a list for an entry with lots": (((),), [(0,), (2,)], ((),)),
    "a list for a lot": (([],),),
    "a list for a lot with deeds": (((),), ((0,), [2]), ((),)),
    "a list for a deed": ((([1],),), ()),
    "a tuple for a deed": ((((1,),),), ()),
    "() for a deed": ((((),),),),
    "a deed for a lot": ((1,), ()),
    "a deed for an entry": (1, 0),
    "None for an entry": (None,),
    "None for a lot": ((None,),),
    "None for a deed": (((None,),), ()),
    "a text for an entry": ("",),
    "a text for a lot": (("",),),
    "a text for a deed": ((("1",),), ()),
    "bytes for a lot": ((b"\x01",), ()),
    "bytes for an entry": (b"",),
    "a range for a lot": ((range(1, 2),), ()),
    "a range for an entry": (range(0),),
    "a dict for an entry": ({},),
    "a dict for a lot": (({1: 1},), ()),
    "a set for a lot": (({1},), ()),
    "wrong in the last entry alone": (((),),) * 7 + (((7,),),),
    "wrong in the last lot alone": (((), (1,), (1, 2), (2,), (3,)), (), ()),
}


def all_books(count):
    """All books of count deeds, for a small count."""
    return list(itertools.product(*[subsets(lots_of(deed, count)) for deed in range(count)]))


def told_may(book, done):
    """What may be done behind done, as the document words it."""
    return [
        deed
        for deed in range(len(book))
        if deed not in done and any(set(lot) <= set(done) for lot in book[deed])
    ]


def told_states(book):
    """The states, found by doing deeds one by one from ()."""
    found = {()}
    waiting = [()]
    while waiting:
        state = waiting.pop()
        for deed in told_may(book, state):
            after = tuple(sorted((*state, deed)))
            if after not in found:
                found.add(after)
                waiting.append(after)
    return sorted(found)


def told_full_runs(book, run=()):
    """The full runs that begin with a run, ascending, found by doing deeds until none may be done."""
    ahead = told_may(book, run)
    return [found for deed in ahead for found in told_full_runs(book, (*run, deed))] or [run]


def told_runs(book):
    """All runs: the beginnings of full runs."""
    return sorted({run[:size] for run in told_full_runs(book) for size in range(len(run) + 1)})


def told_reach(book):
    """The deeds of reach: those of any state."""
    return tuple(sorted({deed for state in told_states(book) for deed in state}))


def told_ways(book, deed):
    """The ways to a deed, as the document words it."""
    having = [state for state in told_states(book) if deed in state]
    return [way for way in having if not any(set(other) < set(way) for other in having)]


def random_book(count, most_lots, chance):
    """A book of count deeds, of few lots, most of few deeds."""
    entries = []
    for deed in range(count):
        lots = lots_of(deed, count)
        weights = [0.3 ** len(lot) for lot in lots]
        many = chance.randint(0, most_lots)
        entries.append(tuple(sorted(set(chance.choices(lots, weights, k=many)))))
    return tuple(entries)


def some_books(most=5):
    """Books of one to so many deeds: all small ones, some of three deeds, few of more."""
    chance = random.Random(11)
    found = [*all_books(1), *all_books(2), *all_books(3)[::13], B, NEVER, EACH_OTHER, ONE]
    for count in range(4, most + 1):
        found += [random_book(count, 3, chance) for _ in range(40)]
    return found


def tower(levels, ground):
    """A tuple nested so many levels deep; its parts are one and the same object over and over."""
    thing = ground
    for _ in range(levels):
        thing = (thing, thing)
    return thing


class Foreign:
    """An object that nothing can be asked of."""

    def refuse(self, *rest):
        raise AssertionError("a foreign object was asked")

    __eq__ = __ne__ = __lt__ = __le__ = __gt__ = __ge__ = refuse
    __hash__ = __len__ = __iter__ = __getitem__ = __contains__ = __bool__ = refuse
    __index__ = __int__ = __str__ = __repr__ = __add__ = __getattr__ = refuse


class Posing:
    """An object that says it is a tuple, and acts as one."""

    __class__ = tuple

    def __init__(self, *parts):
        self.parts = parts

    def __len__(self):
        return len(self.parts)

    def __iter__(self):
        return iter(self.parts)

    def __getitem__(self, at):
        return self.parts[at]


# Built apart, so that comparing or hashing two of them would go through all of it.
TOWERS = [
    tower(40, ()),
    tower(40, ()),
    tower(40, 0),
    tower(40, (0, 1)),
    (tower(38, ()), tower(38, ())),
    ((tower(37, 0), tower(37, 0)), (tower(37, 0), tower(37, 0))),
    (((tower(36, ()), tower(36, ())),),),
    (((),), ((0,), (2,)), (tower(37, ()), tower(37, ()))),
    (((),), ((0,), (2,)), (tower(37, 1),)),
    (((0, tower(37, 0)),),),
]

# Deep in other ways: one chain of tuples, and lists, dicts within one another.
DEEP = [()]
for _ in range(40):
    DEEP = [(*DEEP,)]
DEEP.append({0: [{1: [(), {2: ((),)}]}]})


def no_tuples():
    """Things of all kinds but tuples."""
    return [
        None,
        0,
        1,
        -1,
        10**29,
        True,
        False,
        "",
        "0",
        "()",
        "0: -",
        b"",
        b"\x00",
        [],
        [()],
        [0],
        [[[]]],
        {},
        {0: ((),)},
        {(): ()},
        set(),
        {()},
        frozenset([0]),
        range(0),
        range(3),
        iter(()),
        (deed for deed in ()),
        int,
        tuple,
        len,
        lambda: (),
        NotImplemented,
        ...,
        ValueError("x"),
        unittest,
        Foreign(),
        Posing(),
        Posing(()),
        Posing(((),)),
        Posing(0),
        list(B),
    ] + [list(thing) for thing in TOWERS[:3]]


def wrong_books():
    """Things that are no book, of all kinds."""
    return [*WRONG_BOOKS.values(), *no_tuples(), *TOWERS, *DEEP]


def any_objects():
    """Things of all kinds, deep ones and such with one part many times over among them."""
    return [*no_tuples(), *TOWERS, *DEEP, (), (0,), ((),), (None,), (True,), (False, 1), ("0",)]


def wrong_integers(least, most):
    """Things that are no integer from least to most, of all kinds."""
    near = [least - 1, most + 1, 10**29, -(10**29), (least,), [least], str(least), {least: least}]
    return [
        thing
        for thing in [*near, *any_objects()]
        if not (type(thing) is int and least <= thing <= most)
    ]


def is_one_of(thing, papers):
    """Whether thing is one of these papers, also by the kind of each part; no foreign thing is asked."""
    return any(same(thing, paper) for paper in papers)


def same(thing, other):
    """Whether two things are equal, also by the kind of each part."""
    if type(thing) is not type(other):
        return False
    if type(thing) in (tuple, list):
        return len(thing) == len(other) and all(same(*pair) for pair in zip(thing, other))
    return type(thing) in (int, bool, str, type(None)) and thing == other


class Soon(unittest.TestCase):
    """Tests whose calls answer soon: one that hangs, even within a comparison, ends the run."""

    def refuses(self, error, function, *rest):
        """The call raises just this error."""
        with self.assertRaises(error) as caught:
            function(*rest)
        self.assertIs(type(caught.exception), error)

    def gives(self, result, function, *rest):
        """The call returns a thing like this one, also by the kind of each part."""
        found = function(*rest)
        self.assertTrue(same(found, result), (function.__name__, rest, found, result))

    def setUp(self):
        faulthandler.dump_traceback_later(120, exit=True, file=sys.__stderr__)
        self.addCleanup(faulthandler.cancel_dump_traceback_later)
