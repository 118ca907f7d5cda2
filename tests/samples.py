"""Books and things for the tests, and what the document's words say of them, taken word by word."""

import faulthandler
import itertools
import sys
import unittest

B = (((),), ((0,), (2,)), ((),))
NEVER = ((), ((0,),), ((),))
EACH_OTHER = (((1,),), ((0,),))
FREE = (((),),) * 8
CHAIN = (((),),) + tuple(((deed - 1,),) for deed in range(1, 8))
ONE = ((),)


def subsets(things):
    """All subsets of ascending things, as an ascending list of tuples."""
    return sorted(
        chosen for size in range(len(things) + 1) for chosen in itertools.combinations(things, size)
    )


def lots_of(deed, count):
    """All lots that the deed can have among count deeds, ascending."""
    return subsets([other for other in range(count) if other != deed])


FORTY = (tuple(lots_of(0, 8)[:40]),) + ((),) * 7
FORTY_ONE = (tuple(lots_of(0, 8)[:41]),) + ((),) * 7


WRONG_BOOKS = {
    "no entries": (),
    "nine entries": ((),) * 9,
    "nine entries with lots": (((),),) * 9,
    "many entries": ((),) * 1000,
    "forty-one lots": FORTY_ONE,
    "lots not ascending": (((1,), ()), ()),
    "lots not ascending at the end": (((), (1, 2), (2,), (1,)), (), ()),
    "lots by their length": (((1,), (2,), (1, 2)), (), ()),
    "the lot () twice": (((), ()),),
    "a lot twice": (((1,), (1,)), ()),
    "a lot twice, behind another": (((), (1,), (1,)), ()),
    "deeds not ascending": (((2, 1),), (), ()),
    "a deed twice": (((1, 1),), ()),
    "its own deed": (((0,),),),
    "its own deed, of the last": ((), ((1,),)),
    "its own deed first": (((0, 1),), ()),
    "its own deed last": ((), ((0, 1),)),
    "its own deed amid": ((), ((0, 1, 2),), ()),
    "its own deed in the second lot": (((), (0,)), ()),
    "a deed beyond, of one": (((1,),),),
    "a deed beyond": (((2,),), ()),
    "a deed beyond, behind another": (((1, 2),), ()),
    "a deed far beyond": (((10**29,),), ()),
    "a deed beyond eight": (((8,),), (), (), (), (), (), (), ()),
    "a deed below": (((-1,),), ()),
    "a deed below ahead of another": (((-1, 1),), ()),
    "True for 1": (((True,),), ()),
    "True for 1 behind 0": ((), (), ((0, True),)),
    "False for 0": ((), ((False,),)),
    "a list of entries": [((),)],
    "a list for an entry": ([],),
    "a list for an entry with lots": (((),), [(0,), (2,)], ((),)),
    "a list for a lot": (([],),),
    "a list for a lot with deeds": (((),), ((0,), [2]), ((),)),
    "a list for a deed": ((([1],),), ()),
    "a tuple for a deed": ((((1,),),), ()),
    "() for a deed": ((((),),),),
    "a deed for a lot": ((1,), ()),
    "a deed for an entry": (1, 0),
    "None for an entry": (None,),
    "None for a lot": ((None,),),
    "None for a deed": (((None,),), ()),
    "a text for an entry": ("",),
    "a text for a lot": (("",),),
    "a text for a deed": ((("1",),), ()),
    "bytes for a lot": ((b"\x01",), ()),
    "bytes for an entry": (b"",),
    "a range for a lot": ((range(1, 2),), ()),
    "a range for an entry": (range(0),),
    "a dict for an entry": ({},),
    "a dict for a lot": (({1: 1},), ()),
    "a set for a lot": (({1},), ()),
    "wrong in the last entry alone": (((),),) * 7 + (((7,),),),
    "wrong in the last lot alone": (((), (1,), (1, 2), (2,), (3,)), (), ()),
}


def all_books(count):
    """All books of count deeds, for a small count."""
    return list(itertools.product(*[subsets(lots_of(deed, count)) for deed in range(count)]))


def told_may(book, done):
    """What may be done behind done, as the document words it."""
    return [
        deed
        for deed in range(len(book))
        if deed not in done and any(set(lot) <= set(done) for lot in book[deed])
    ]


def told_states(book):
    """The states, found by doing deeds one by one from ()."""
    found = {()}
    waiting = [()]
    while waiting:
        state = waiting.pop()
        for deed in told_may(book, state):
            after = tuple(sorted((*state, deed)))
            if after not in found:
                found.add(after)
                waiting.append(after)
    return sorted(found)


def tower(levels, ground):
    """A tuple nested so many levels deep; its parts are one and the same object over and over."""
    thing = ground
    for _ in range(levels):
        thing = (thing, thing)
    return thing


class Foreign:
    """An object that nothing can be asked of."""

    def refuse(self, *rest):
        raise AssertionError("a foreign object was asked")

    __eq__ = __ne__ = __lt__ = __le__ = __gt__ = __ge__ = refuse
    __hash__ = __len__ = __iter__ = __getitem__ = __contains__ = __bool__ = refuse
    __index__ = __int__ = __str__ = __repr__ = __add__ = __getattr__ = refuse


class Posing:
    """An object that says it is a tuple, and acts as one."""

    __class__ = tuple

    def __init__(self, *parts):
        self.parts = parts

    def __len__(self):
        return len(self.parts)

    def __iter__(self):
        return iter(self.parts)

    def __getitem__(self, at):
        return self.parts[at]


# Built apart, so that comparing or hashing two of them would go through all of it.
TOWERS = [
    tower(40, ()),
    tower(40, ()),
    tower(40, 0),
    tower(40, (0, 1)),
    (tower(38, ()), tower(38, ())),
    ((tower(37, 0), tower(37, 0)), (tower(37, 0), tower(37, 0))),
    (((tower(36, ()), tower(36, ())),),),
    (((),), ((0,), (2,)), (tower(37, ()), tower(37, ()))),
    (((),), ((0,), (2,)), (tower(37, 1),)),
    (((0, tower(37, 0)),),),
]

# Deep in other ways: one chain of tuples, and lists, dicts within one another.
DEEP = [()]
for _ in range(40):
    DEEP = [(*DEEP,)]
DEEP.append({0: [{1: [(), {2: ((),)}]}]})


def no_tuples():
    """Things of all kinds but tuples."""
    return [
        None,
        0,
        1,
        -1,
        10**29,
        True,
        False,
        "",
        "0",
        "()",
        "0: -",
        b"",
        b"\x00",
        [],
        [()],
        [0],
        [[[]]],
        {},
        {0: ((),)},
        {(): ()},
        set(),
        {()},
        frozenset([0]),
        range(0),
        range(3),
        iter(()),
        (deed for deed in ()),
        int,
        tuple,
        len,
        lambda: (),
        NotImplemented,
        ...,
        ValueError("x"),
        unittest,
        Foreign(),
        Posing(),
        Posing(()),
        Posing(((),)),
        Posing(0),
        list(B),
    ] + [list(thing) for thing in TOWERS[:3]]


def wrong_books():
    """Things that are no book, of all kinds."""
    return [*WRONG_BOOKS.values(), *no_tuples(), *TOWERS, *DEEP]


class Soon(unittest.TestCase):
    """Tests whose calls answer soon: one that hangs, even within a comparison, ends the run."""

    def setUp(self):
        faulthandler.dump_traceback_later(120, exit=True, file=sys.__stderr__)
        self.addCleanup(faulthandler.cancel_dump_traceback_later)
