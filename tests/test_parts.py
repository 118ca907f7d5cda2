"""Promises [18], [19] and [20]: parts of books, and books made of others."""

import math
import random

from opendeeds.books import is_book, is_state, states
from opendeeds.errors import BadBook, BadDeed, BadSet, BadState, TooMany
from opendeeds.parts import behind, beside, done_first, in_place, kept_alone
from opendeeds.runs import count_runs, reach
from samples import B, CHAIN, EACH_OTHER, FORTY, FORTY_LAST, FREE, HALF_BARRED, NEVER, NO_LOTS, ONE
from samples import RUNS_501, THREE_OF_SEVEN
from samples import Soon, any_objects, is_one_of, lots_of, random_book, some_books, subsets
from samples import told_full_runs, told_reach, told_states, wrong_books, wrong_integers

FREE_ONE = (((),),)
ALL = tuple(range(8))

# The first deed has thirteen lots, or fourteen, besides many deeds without lots.
THIRTEEN = (tuple(lots_of(0, 6)[:13]),) + ((),) * 5
FOURTEEN = (tuple(lots_of(0, 6)[:14]),) + ((),) * 5
FORTY_OF_SEVEN = (tuple(lots_of(0, 7)[:40]),) + ((),) * 6


def renamed(book, names):
    """The entries of a book by deed, with its deeds called by these names."""
    return {
        names[deed]: {frozenset(names[other] for other in lot) for lot in entry}
        for deed, entry in enumerate(book)
    }


def numbered(entries, names):
    """The book of entries by name, the names being numbered as they stand."""
    return tuple(
        tuple(sorted(tuple(sorted(names.index(other) for other in lot)) for lot in entries[name]))
        for name in names
    )


def told_done_first(book, state):
    """The book of what is left, by the document's words."""
    names = [deed for deed in range(len(book)) if deed not in state]
    entries = renamed(book, range(len(book)))
    left = {name: {lot - set(state) for lot in entries[name]} for name in names}
    return (numbered(left, names), tuple(names)) if names else (None, ())


def told_kept_alone(book, deeds):
    """The book of these deeds alone, by the document's words."""
    entries = renamed(book, range(len(book)))
    kept = {deed: {lot for lot in entries[deed] if lot <= set(deeds)} for deed in deeds}
    return numbered(kept, list(deeds))


def told_put_behind(book, other, first):
    """The two books together, each lot of the second with the first deeds."""
    names = [("first", deed) for deed in range(len(book))]
    more = [("second", deed) for deed in range(len(other))]
    entries = renamed(book, names)
    for name, entry in renamed(other, more).items():
        entries[name] = {lot | {names[deed] for deed in first} for lot in entry}
    return numbered(entries, names + more)


def told_in_place(book, deed, other):
    """The book with another in place of the deed, by the document's words."""
    names = [("first", index) for index in range(len(book))]
    more = [("second", index) for index in range(len(other))]
    gone = names[deed]
    entries = {}
    for name, entry in renamed(book, names).items():
        entries[name] = {(lot - {gone}) | set(more) if gone in lot else lot for lot in entry}
    outer = entries.pop(gone)
    for name, entry in renamed(other, more).items():
        entries[name] = {lot | own for lot in outer for own in entry}
    return numbered(entries, [name for name in names if name != gone] + more)


class DoneFirst(Soon):
    def test_examples(self):
        self.gives((B, (0, 1, 2)), done_first, B, ())
        self.gives(((((), (1,)), ((),)), (1, 2)), done_first, B, (0,))
        self.gives(((((),),), (1,)), done_first, B, (0, 2))
        self.gives(((((),),), (0,)), done_first, B, (1, 2))
        self.gives((None, ()), done_first, B, (0, 1, 2))

    def test_lots_that_become_like_ones(self):
        book = (((),), ((),), ((0,), (1,)), ((0, 2), (1, 2), (2,)))
        self.gives(((((),), ((), (0,)), ((0, 1), (1,))), (1, 2, 3)), done_first, book, (0,))
        self.gives(((((),), ((0,),)), (2, 3)), done_first, book, (0, 1))

    def test_no_lot_is_left_out_nor_any_deed(self):
        self.gives((((), ((0,),)), (0, 1)), done_first, NEVER, (2,))
        self.gives((EACH_OTHER, (0, 1)), done_first, EACH_OTHER, ())
        self.gives((ONE, (0,)), done_first, ONE, ())

    def test_the_greatest_state(self):
        self.gives((None, ()), done_first, FREE, ALL)
        self.gives((None, ()), done_first, FREE_ONE, (0,))
        left = (((1,), (2, 3)), ((0,),), ((1,), (3,)), ())
        self.gives((left, (3, 4, 5, 6)), done_first, HALF_BARRED, (0, 1, 2, 7))

    def test_forty_lots(self):
        left = tuple(lot for lot in FORTY_LAST[7] if 0 not in lot)
        cut = {tuple(other - 1 for other in lot if other) for lot in FORTY_LAST[7]}
        self.assertLess(len(left), 40)
        book = (((),),) * 6 + (tuple(sorted(cut)),)
        self.gives((book, tuple(range(1, 8))), done_first, FORTY_LAST, (0,))
        self.gives((FORTY_LAST, ALL), done_first, FORTY_LAST, ())
        self.gives((((((),)),), (7,)), done_first, FORTY_LAST, ALL[:7])
        self.gives((((),) * 7, ALL[1:]), done_first, FORTY, (0,))

    def test_small_books(self):
        for book in [*some_books(), HALF_BARRED]:
            for state in told_states(book):
                found = done_first(book, state)
                self.gives(told_done_first(book, state), done_first, book, state)
                self.assertTrue(found[0] is None or is_book(found[0]))

    def test_states_are_what_is_left_of_states(self):
        for book in [*some_books(), HALF_BARRED]:
            told = told_states(book)
            for state in told[::2]:
                left, deeds = done_first(book, state)
                over = [set(other) - set(state) for other in told if set(state) <= set(other)]
                if left is None:
                    self.assertEqual(over, [set()])
                else:
                    found = [{deeds[deed] for deed in other} for other in states(left)]
                    self.assertEqual(sorted(map(sorted, found)), sorted(map(sorted, over)))

    def test_bad_state(self):
        for thing in [(1,), (1, 0), (0, 0), (3,), [], [0], (True,), (0, True), None, 0, ((),)]:
            self.refuses(BadState, done_first, B, thing)
        for thing in any_objects():
            if not is_one_of(thing, [(), (0,)]):
                self.refuses(BadState, done_first, B, thing)
        self.refuses(BadState, done_first, NEVER, (0, 1, 2))


class KeptAlone(Soon):
    def test_examples(self):
        self.gives(B, kept_alone, B, (0, 1, 2))
        self.gives((((),), ((0,),)), kept_alone, B, (0, 1))
        self.gives((((),), ((),)), kept_alone, B, (0, 2))
        self.gives((((1,),), ((),)), kept_alone, B, (1, 2))
        self.gives(((),), kept_alone, B, (1,))
        self.gives((((),),), kept_alone, B, (2,))

    def test_lots_with_other_deeds(self):
        book = (((), (1, 2), (3,)), ((0, 3), (2,)), ((0, 1, 3),), ((0,), (0, 1)))
        self.gives((((), (1, 2)), ((2,),), ()), kept_alone, book, (0, 1, 2))
        self.gives((((), (1,)), ((0,),)), kept_alone, book, (0, 3))
        self.gives((((1,),), ()), kept_alone, book, (1, 2))
        self.gives(((), ()), kept_alone, book, (2, 3))

    def test_barred_deeds(self):
        self.gives(((), ((0,),)), kept_alone, NEVER, (0, 1))
        self.gives((((1,),), ((0,),), ()), kept_alone, HALF_BARRED, (3, 4, 6))
        self.gives(((),), kept_alone, EACH_OTHER, (1,))

    def test_edges(self):
        self.gives(ONE, kept_alone, ONE, (0,))
        self.gives(FREE, kept_alone, FREE, ALL)
        self.gives(FORTY_LAST, kept_alone, FORTY_LAST, ALL)
        self.gives((((),) * 4), kept_alone, NO_LOTS, (1, 3, 5, 7))
        for deed in range(8):
            self.gives((((),) if deed == 0 else (),), kept_alone, CHAIN, (deed,))

    def test_small_books(self):
        for book in [*some_books(4), HALF_BARRED]:
            for deeds in subsets(range(len(book)))[1:]:
                self.assertTrue(is_book(kept_alone(book, deeds)))
                self.gives(told_kept_alone(book, deeds), kept_alone, book, deeds)

    def test_states_are_the_states_within(self):
        for book in [*some_books(4), HALF_BARRED]:
            told = told_states(book)
            for deeds in subsets(range(len(book)))[1::3]:
                within = [state for state in told if set(state) <= set(deeds)]
                found = states(kept_alone(book, deeds))
                found = [tuple(deeds[deed] for deed in state) for state in found]
                self.assertEqual(sorted(found), within)

    def test_bad_set(self):
        near = [(), (1, 0), (0, 0), (0, 3), (3,), (-1,), (10**29,), [0], (True,), (0, True), (False,)]
        near += [((0,),), ("0",), (None,), tuple(range(1000))]
        for thing in [*near, *any_objects()]:
            if not is_one_of(thing, [(0,)]):
                self.refuses(BadSet, kept_alone, B, thing)
            if not is_one_of(thing, [1, 2]):
                self.refuses(BadSet, kept_alone, B, (0, thing))


class Together(Soon):
    def test_beside(self):
        self.gives((((),), ((0,), (2,)), ((),), ((4,),), ((3,),)), beside, B, EACH_OTHER)
        self.gives((((1,),), ((0,),), ((),), ((2,), (4,)), ((),)), beside, EACH_OTHER, B)
        self.gives(((), ()), beside, ONE, ONE)
        self.gives((((),), ()), beside, FREE_ONE, ONE)

    def test_behind(self):
        self.gives((((),), ((0,), (2,)), ((),), ((0, 1, 2, 4),), ((0, 1, 2, 3),)), behind, B, EACH_OTHER)
        self.gives((((),), ((0,),)), behind, FREE_ONE, FREE_ONE)
        self.gives((((),), ()), behind, FREE_ONE, ONE)
        book = (((),), ((0,),), ((0, 1), (0, 3)), ((0,),))
        self.gives(book, behind, FREE_ONE, B)

    def test_behind_a_barred_deed(self):
        book = behind(NEVER, FREE_ONE)
        self.assertEqual(book, (*NEVER, ((0, 1, 2),)))
        self.assertEqual(reach(book), (2,))

    def test_eight_deeds_and_nine(self):
        for many in range(1, 8):
            self.gives(FREE, beside, FREE[:many], FREE[many:])
            told = told_put_behind(FREE[:many], FREE[many:], range(many))
            self.gives(told, behind, FREE[:many], FREE[many:])
        for function in (beside, behind):
            for many in range(1, 9):
                self.refuses(TooMany, function, FREE[:many], FREE[: 9 - many])
                self.refuses(TooMany, function, NO_LOTS[:many], NO_LOTS[: 9 - many])
            self.refuses(TooMany, function, FREE, CHAIN)
            self.assertTrue(is_book(function(FORTY_OF_SEVEN, FREE_ONE)))
            self.assertTrue(is_book(function(FREE_ONE, FORTY_OF_SEVEN)))

    def test_small_books(self):
        chance = random.Random(12)
        books = [*some_books(4), ONE, FREE_ONE]
        for book in books:
            for other in chance.choices(books, k=4):
                if len(book) + len(other) <= 8:
                    self.assertTrue(is_book(beside(book, other)))
                    self.assertTrue(is_book(behind(book, other)))
                    self.gives(told_put_behind(book, other, ()), beside, book, other)
                    self.gives(told_put_behind(book, other, range(len(book))), behind, book, other)

    def test_how_many_full_runs_and_states(self):
        chance = random.Random(13)
        books = [*some_books(4), B, ONE, FREE_ONE]
        for book in books:
            for other in chance.choices(books, k=4):
                m, n = len(told_reach(book)), len(told_reach(other))
                both = len(told_full_runs(book)) * len(told_full_runs(other))
                found = beside(book, other)
                self.assertEqual(count_runs(found), both * math.comb(m + n, m))
                self.assertEqual(len(states(found)), len(told_states(book)) * len(told_states(other)))
                if m == len(book):
                    found = behind(book, other)
                    self.assertEqual(count_runs(found), both)
                    many = len(told_states(book)) + len(told_states(other)) - 1
                    self.assertEqual(len(states(found)), many)

    def test_bad_book_comes_ahead_of_too_many(self):
        for function in (beside, behind):
            for thing in wrong_books():
                self.refuses(BadBook, function, thing, FREE)
                self.refuses(BadBook, function, FREE, thing)


class InPlace(Soon):
    def test_examples(self):
        two = (((),), ((0,),))
        self.gives((((1,), (2, 3)), ((),), ((),), ((2,),)), in_place, B, 0, two)
        self.gives((((),), ((),), ((0,), (1,)), ((0, 2), (1, 2))), in_place, B, 1, two)
        self.gives((((),), ((0,), (2, 3)), ((),), ((2,),)), in_place, B, 2, two)

    def test_lots_are_put_together(self):
        told = (((),), ((),), ((0,), (1,)), ((0, 2), (0, 4), (1, 2), (1, 4)), ((0,), (1,)))
        self.gives(told, in_place, B, 1, B)

    def test_one_deed_for_another(self):
        self.gives((((1,), (2,)), ((),), ((),)), in_place, B, 0, FREE_ONE)
        self.gives((((),), ((),), ((0,), (1,))), in_place, B, 1, FREE_ONE)
        self.gives((((),), ((),), ()), in_place, B, 1, ONE)

    def test_a_first_book_of_one_deed(self):
        for other in (ONE, FREE_ONE, B, FREE, CHAIN, HALF_BARRED, FORTY, FORTY_LAST):
            self.gives(other, in_place, FREE_ONE, 0, other)
            self.gives(((),) * len(other), in_place, ONE, 0, other)

    def test_a_deed_without_lots(self):
        self.gives((((2, 3, 4),), ((),), (), (), ()), in_place, NEVER, 0, B)
        self.gives((((1,),), ()), in_place, ((), ((0,),)), 0, FREE_ONE)

    def test_nine_deeds_together_and_ten(self):
        self.gives(FREE, in_place, FREE, 3, FREE_ONE)
        for many in range(1, 9):
            self.gives(FREE, in_place, FREE[:many], many - 1, FREE[: 9 - many])
        for many in range(2, 9):
            self.refuses(TooMany, in_place, FREE[:many], 0, FREE[: 10 - many])
            self.refuses(TooMany, in_place, NO_LOTS[:many], 1, NO_LOTS[: 10 - many])
        self.refuses(TooMany, in_place, FREE, 0, FREE)

    def test_forty_lots_and_more(self):
        five = (tuple(lots_of(0, 4)[:5]),) + ((),) * 3
        six = (tuple(lots_of(0, 4)[:6]),) + ((),) * 3
        seven = ((),) * 3 + (tuple(lots_of(3, 4)[:7]),)
        eight = (tuple(lots_of(0, 4)[:8]),) + ((),) * 3
        three = (((), (1,), (1, 2)), (), ())
        for book, other, many in [(five, eight, 40), (five, seven, 35), (THIRTEEN, three, 39)]:
            found = in_place(book, 0, other)
            self.assertTrue(is_book(found))
            self.assertEqual(max(len(entry) for entry in found), many)
            self.gives(told_in_place(book, 0, other), in_place, book, 0, other)
        for book, other in [(six, eight), (six, seven), (FOURTEEN, three)]:
            self.refuses(TooMany, in_place, book, 0, other)

    def test_forty_lots_at_the_deed_or_at_others(self):
        found = in_place(FORTY, 0, FREE_ONE)
        self.assertEqual(len(found[7]), 40)
        self.assertTrue(is_book(found))
        self.gives(told_in_place(FORTY, 0, FREE_ONE), in_place, FORTY, 0, FREE_ONE)
        self.gives(told_in_place(FORTY_LAST, 3, FREE_ONE), in_place, FORTY_LAST, 3, FREE_ONE)
        self.gives(told_in_place(FORTY_OF_SEVEN, 0, (((),), ())), in_place, FORTY_OF_SEVEN, 0, (((),), ()))
        self.refuses(TooMany, in_place, FORTY_OF_SEVEN, 0, (((), (1,)), ()))
        self.refuses(TooMany, in_place, FORTY_OF_SEVEN, 0, ((), ((), (0,))))
        self.gives(told_in_place(THREE_OF_SEVEN, 7, FREE_ONE), in_place, THREE_OF_SEVEN, 7, FREE_ONE)

    def test_small_books(self):
        chance = random.Random(14)
        books = [*some_books(4), ONE, FREE_ONE, B]
        for book in books:
            for other in chance.choices(books, k=3):
                for deed in range(len(book)):
                    found = in_place(book, deed, other)
                    self.assertTrue(is_book(found))
                    self.gives(told_in_place(book, deed, other), in_place, book, deed, other)

    def test_how_many_states_and_full_runs(self):
        two = (((),), ((0,),))
        # 0 and 2 are done in any sequence, the first of two behind one of them, the second behind it.
        found = in_place(B, 1, two)
        self.assertEqual(count_runs(found), 2 * 3)
        self.assertEqual(len(states(found)), 4 + 2 * 3)
        # What stands behind the deed waits for all that stand in its place.
        found = in_place((((),), ((0,),)), 0, FREE[:4])
        self.assertEqual((count_runs(found), len(states(found))), (24, 17))
        found = in_place(EACH_OTHER, 0, B)
        self.assertEqual((count_runs(found), states(found)), (1, [()]))

    def test_bad_deed(self):
        for thing in wrong_integers(0, 2):
            self.refuses(BadDeed, in_place, B, thing, B)
            self.refuses(BadDeed, in_place, B, thing, None)
        self.refuses(BadDeed, in_place, FREE, 8, FREE)
        self.assertTrue(is_book(in_place(NEVER, 0, B)))

    def test_bad_book(self):
        for thing in wrong_books():
            self.refuses(BadBook, in_place, thing, 0, B)
            self.refuses(BadBook, in_place, B, 0, thing)
            self.refuses(BadBook, in_place, FREE, 0, thing)


class Sizes(Soon):
    def test_random_books_of_eight_deeds(self):
        chance = random.Random(15)
        for _ in range(20):
            book = random_book(8, 6, chance)
            for state in told_states(book)[::9]:
                self.assertTrue(is_state(book, state))
                self.gives(told_done_first(book, state), done_first, book, state)
            deeds = tuple(sorted(chance.sample(range(8), 5)))
            self.gives(told_kept_alone(book, deeds), kept_alone, book, deeds)
        self.gives(told_kept_alone(RUNS_501, (1, 3, 4, 7)), kept_alone, RUNS_501, (1, 3, 4, 7))
