"""Promises [9] and [10]: shut sets, closures and corners."""

import itertools

from opendeeds.books import may, states
from opendeeds.errors import BadDeed, BadSet, BadShut
from opendeeds.runs import barred, reach
from opendeeds.shutting import bare_sets, brings, closure, corners, is_shut, left_by, needs, shut_sets
from samples import B, CHAIN, EACH_OTHER, FORTY_LAST, FREE, HALF_BARRED, NEVER, NO_LOTS, ONE
from samples import THREE_OF_SEVEN
from samples import Soon, all_books, any_objects, is_one_of, some_books, subsets, wrong_integers
from samples import told_reach, told_states

ALL = tuple(range(8))

# Things that are no set of B, in which each deed is of reach.
NO_SETS_OF_B = [
    (1, 0),
    (0, 0),
    (0, 1, 1),
    (3,),
    (0, 1, 2, 3),
    (-1,),
    (-1, 0),
    (10**29,),
    (True,),
    (False,),
    (0, True),
    (False, 1),
    [],
    [0],
    ([0],),
    ((0,),),
    ((),),
    ("0",),
    (None,),
    (0, None),
    "",
    None,
    0,
    {},
    tuple(range(1000)),
]


def told_shut_sets(book):
    """For each state the deeds of reach that it has not, ascending."""
    within = told_reach(book)
    return sorted(
        tuple(deed for deed in within if deed not in state) for state in told_states(book)
    )


def told_left_by(book, deeds):
    """The state without any of the deeds that has each other such state within."""
    free = [state for state in told_states(book) if not set(state) & set(deeds)]
    (greatest,) = [state for state in free if all(set(other) <= set(state) for other in free)]
    return greatest


def told_closure(book, deeds):
    """The shut set with the deeds that lies within each other such one."""
    having = [shut for shut in told_shut_sets(book) if set(deeds) <= set(shut)]
    (least,) = [shut for shut in having if all(set(shut) <= set(other) for other in having)]
    return least


def told_corners(book, shut):
    """The deeds of a shut set without which it is shut."""
    sets = told_shut_sets(book)
    return tuple(deed for deed in shut if tuple(sorted(set(shut) - {deed})) in sets)


class ShutSets(Soon):
    def test_example(self):
        self.gives([(), (0,), (0, 1), (0, 1, 2), (1,), (1, 2), (2,)], shut_sets, B)

    def test_edges(self):
        for book in (ONE, EACH_OTHER, NO_LOTS):
            self.gives([()], shut_sets, book)
        self.gives([(), (2,)], shut_sets, NEVER)
        self.gives(subsets(range(8)), shut_sets, FREE)
        self.gives(sorted(ALL[size:] for size in range(9)), shut_sets, CHAIN)

    def test_small_books(self):
        for book in [*some_books(), HALF_BARRED]:
            self.gives(told_shut_sets(book), shut_sets, book)


class IsShut(Soon):
    def test_all_sets_of_small_books(self):
        for book in [*some_books(4), HALF_BARRED]:
            told = told_shut_sets(book)
            for thing in subsets(range(len(book))):
                self.gives(thing in told, is_shut, book, thing)

    def test_barred_deeds(self):
        self.gives(True, is_shut, NEVER, (2,))
        self.gives(True, is_shut, NEVER, ())
        for thing in [(0,), (0, 1), (0, 2), (1, 2), (0, 1, 2)]:
            self.gives(False, is_shut, NEVER, thing)
        self.gives(False, is_shut, ONE, (0,))
        self.gives(True, is_shut, ONE, ())

    def test_any_object(self):
        told = told_shut_sets(B)
        for thing in [*NO_SETS_OF_B, *any_objects()]:
            self.gives(is_one_of(thing, told), is_shut, B, thing)
            self.gives(is_one_of((thing,), told), is_shut, B, (thing,))
            self.gives(is_one_of((0, thing), told), is_shut, B, (0, thing))
        self.gives(False, is_shut, B, (0, 2))


class Closure(Soon):
    def test_example(self):
        self.gives((0, 1, 2), closure, B, (0, 2))
        self.gives((), left_by, B, (0, 2))
        self.gives((1,), closure, B, (1,))
        self.gives((0, 2), left_by, B, (1,))
        self.gives((), closure, B, ())
        self.gives((0, 1, 2), left_by, B, ())
        self.gives(True, brings, B, (0, 2), 1)
        self.gives(False, brings, B, (0,), 1)
        self.gives(True, brings, B, (0,), 0)

    def test_all_sets_of_small_books(self):
        for book in [*some_books(4), HALF_BARRED]:
            within = told_reach(book)
            for deeds in subsets(within):
                told = told_closure(book, deeds)
                self.gives(told, closure, book, deeds)
                self.gives(told_left_by(book, deeds), left_by, book, deeds)
                self.assertEqual(tuple(sorted({*told, *left_by(book, deeds)})), within)
                for deed in within:
                    self.gives(deed in told, brings, book, deeds, deed)

    def test_eight_deeds(self):
        for deeds in subsets(range(8)):
            self.gives(deeds, closure, FREE, deeds)
            self.gives(tuple(sorted(set(ALL) - set(deeds))), left_by, FREE, deeds)
            self.gives(ALL[min(deeds, default=8) :], closure, CHAIN, deeds)
            self.gives(ALL[: min(deeds, default=8)], left_by, CHAIN, deeds)

    def test_no_deed_of_reach(self):
        for book in (ONE, EACH_OTHER, NO_LOTS):
            self.gives((), closure, book, ())
            self.gives((), left_by, book, ())
            self.refuses(BadSet, closure, book, (0,))
            self.refuses(BadDeed, brings, book, (), 0)


class Corners(Soon):
    def test_example(self):
        self.gives((0, 2), corners, B, (0, 1, 2))
        self.gives((1, 2), corners, B, (1, 2))
        self.gives((1,), corners, B, (1,))
        self.gives((), corners, B, ())

    def test_small_books(self):
        for book in [*some_books(), HALF_BARRED]:
            within = told_reach(book)
            for shut in told_shut_sets(book):
                told = told_corners(book, shut)
                self.gives(told, corners, book, shut)
                self.gives(shut, closure, book, told)
                state = tuple(sorted(set(within) - set(shut)))
                self.assertEqual(list(told), may(book, state))

    def test_a_shut_set_is_told_by_its_corners_alone(self):
        for book in [*some_books(), FREE, CHAIN, THREE_OF_SEVEN, FORTY_LAST, HALF_BARRED]:
            found = shut_sets(book)
            self.assertEqual(len({corners(book, shut) for shut in found}), len(found))
            for shut in found:
                self.assertEqual(closure(book, corners(book, shut)), shut)

    def test_bad_shut(self):
        for thing in [(0, 2), *NO_SETS_OF_B]:
            self.refuses(BadShut, corners, B, thing)
        for thing in any_objects():
            if not is_one_of(thing, [(), (0,)]):
                self.refuses(BadShut, corners, B, thing)
        for thing in [(0,), (0, 2), (1,), (0, 1, 2)]:
            self.refuses(BadShut, corners, NEVER, thing)
        self.refuses(BadShut, corners, CHAIN, (0,))
        self.refuses(BadShut, corners, FREE, (8,))
        self.refuses(BadShut, corners, ONE, (0,))


class BareSets(Soon):
    def test_example(self):
        self.gives([(), (0,), (0, 1), (0, 2), (1,), (1, 2), (2,)], bare_sets, B)

    def test_edges(self):
        for book in (ONE, EACH_OTHER, NO_LOTS):
            self.gives([()], bare_sets, book)
        self.gives(subsets(range(8)), bare_sets, FREE)
        self.gives([(), *[(deed,) for deed in range(8)]], bare_sets, CHAIN)

    def test_all_sets_of_small_books(self):
        for book in [*some_books(), HALF_BARRED]:
            told = []
            for deeds in subsets(told_reach(book)):
                ends = told_corners(book, told_closure(book, deeds))
                if all(deed in ends for deed in deeds):
                    told.append(deeds)
            self.gives(told, bare_sets, book)
            self.assertEqual(len(told), len(told_shut_sets(book)))


class Needs(Soon):
    def test_example(self):
        self.gives([(0, 2)], needs, B, (0, 2), 1)
        self.gives([(0, 2), (1,)], needs, B, (0, 1, 2), 1)
        self.gives([(0,)], needs, B, (0, 2), 0)

    def test_all_sets_of_small_books(self):
        for book in [*some_books(4), HALF_BARRED]:
            bringing = {deeds: told_closure(book, deeds) for deeds in subsets(told_reach(book))}
            for deeds, closed in bringing.items():
                for deed in closed:
                    parts = [part for part in subsets(deeds) if deed in bringing[part]]
                    told = [
                        part
                        for part in parts
                        if not any(set(other) < set(part) for other in parts)
                    ]
                    self.gives(told, needs, book, deeds, deed)
                    self.assertEqual((deed,) in told, deed in deeds)

    def test_eight_deeds(self):
        self.gives([(deed,) for deed in range(6)], needs, CHAIN, ALL, 5)
        self.gives([(3,)], needs, FREE, ALL, 3)
        found = needs(THREE_OF_SEVEN, ALL, 7)
        self.assertEqual(found, [*itertools.combinations(range(7), 5), (7,)])

    def test_a_deed_that_the_closure_has_not(self):
        self.refuses(BadDeed, needs, B, (), 0)
        self.refuses(BadDeed, needs, B, (0,), 1)
        self.refuses(BadDeed, needs, B, (1,), 0)
        self.refuses(BadDeed, needs, CHAIN, (5, 6), 4)
        self.gives([(5,)], needs, CHAIN, (5, 6), 5)
        self.refuses(BadDeed, needs, HALF_BARRED, (0, 1), 6)
        self.refuses(BadDeed, needs, ONE, (), 0)


class Wrong(Soon):
    def test_bad_set(self):
        others = [thing for thing in any_objects() if not is_one_of(thing, [(), (0,)])]
        for thing in [*NO_SETS_OF_B, *others]:
            self.refuses(BadSet, left_by, B, thing)
            self.refuses(BadSet, closure, B, thing)
            self.refuses(BadSet, brings, B, thing, 0)
            self.refuses(BadSet, needs, B, thing, 0)

    def test_a_set_with_a_barred_deed(self):
        for book in (NEVER, HALF_BARRED, EACH_OTHER):
            for deed in barred(book):
                for deeds in [(deed,), tuple(sorted({*reach(book), deed}))]:
                    self.refuses(BadSet, left_by, book, deeds)
                    self.refuses(BadSet, closure, book, deeds)
                    self.refuses(BadSet, brings, book, deeds, 2)
                    self.refuses(BadSet, needs, book, deeds, 2)

    def test_bad_deed(self):
        for thing in wrong_integers(0, 2):
            self.refuses(BadDeed, brings, B, (0, 2), thing)
            self.refuses(BadDeed, needs, B, (0, 2), thing)
        for deed in barred(HALF_BARRED):
            self.refuses(BadDeed, brings, HALF_BARRED, (0, 1), deed)
            self.refuses(BadDeed, needs, HALF_BARRED, (0, 1), deed)


class NoTwoBringEachOtherIn(Soon):
    def check(self, book, sets):
        within = reach(book)
        for deeds in sets:
            out = [deed for deed in within if deed not in closure(book, deeds)]
            for deed, other in itertools.combinations(out, 2):
                with_deed = tuple(sorted({*deeds, deed}))
                with_other = tuple(sorted({*deeds, other}))
                both = brings(book, with_deed, other) and brings(book, with_other, deed)
                self.assertFalse(both, (book, deeds, deed, other))

    def test_small_books(self):
        for book in [*all_books(2), *all_books(3)[::29], *some_books()[-40:], HALF_BARRED]:
            self.check(book, subsets(reach(book)))

    def test_eight_deeds(self):
        for book in (FREE, CHAIN, THREE_OF_SEVEN):
            self.check(book, states(book)[::40])
