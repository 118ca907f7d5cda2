"""Promises [11] and [12]: ways, least books, books of families."""

import itertools
import random

from opendeeds.books import is_book, states
from opendeeds.errors import BadDeed, BadFamily, BadNumber, BadSizes
from opendeeds.least import are_alike, book_of, family_fault, least_book, spare_lots
from opendeeds.least import unlike_state, ways
from samples import B, CHAIN, EACH_OTHER, FORTY, FORTY_LAST, FREE, HALF_BARRED, NEVER, NO_LOTS, ONE
from samples import THREE_OF_SEVEN
from samples import Soon, all_books, any_objects, is_one_of, random_book, some_books, subsets
from samples import told_reach, told_states, told_ways, wrong_integers

SPARE = (((), (1,)), ((0,), (0, 2), (2,)), ((0, 1),))


def told_least_book(book):
    """The book of the ways to each deed, each without the deed."""
    entries = [[] for _ in book]
    for deed in told_reach(book):
        for way in told_ways(book, deed):
            entries[deed].append(tuple(other for other in way if other != deed))
    return tuple(tuple(sorted(entry)) for entry in entries)


def without_lot(book, deed, lot):
    """The book with a lot taken out."""
    entry = tuple(other for other in book[deed] if other != lot)
    return (*book[:deed], entry, *book[deed + 1 :])


def told_spare_lots(book):
    """The lots each of which, taken out by itself, leaves the states as they are."""
    told = told_states(book)
    return [
        (deed, lot)
        for deed, entry in enumerate(book)
        for lot in entry
        if told_states(without_lot(book, deed, lot)) == told
    ]


class Ways(Soon):
    def test_example(self):
        self.gives([(0,)], ways, B, 0)
        self.gives([(0, 1), (1, 2)], ways, B, 1)
        self.gives([(2,)], ways, B, 2)

    def test_small_books(self):
        for book in [*some_books(), HALF_BARRED]:
            for deed in told_reach(book):
                self.gives(told_ways(book, deed), ways, book, deed)

    def test_eight_deeds(self):
        for deed in range(8):
            self.gives([(deed,)], ways, FREE, deed)
            self.gives([tuple(range(deed + 1))], ways, CHAIN, deed)
        told = [(*three, 7) for three in itertools.combinations(range(7), 3)]
        self.gives(told, ways, THREE_OF_SEVEN, 7)
        self.gives([(7,)], ways, FORTY_LAST, 7)

    def test_ascending_with_the_deed_in_them(self):
        book = (((1,), (2,)), ((),), ((),))
        self.gives([(0, 1), (0, 2)], ways, book, 0)
        book = (((1, 2), (3,)), ((),), ((),), ((),))
        self.gives([(0, 1, 2), (0, 3)], ways, book, 0)

    def test_bad_deed(self):
        for thing in wrong_integers(0, 2):
            self.refuses(BadDeed, ways, B, thing)
        for deed in (3, 4, 5, 6, 8):
            self.refuses(BadDeed, ways, HALF_BARRED, deed)
        self.refuses(BadDeed, ways, ONE, 0)
        self.refuses(BadDeed, ways, EACH_OTHER, 0)


class LeastBook(Soon):
    def test_examples(self):
        self.gives(B, least_book, B)
        self.gives(((), (), ((),)), least_book, NEVER)
        self.gives((((),), ((0,),), ((0, 1),)), least_book, SPARE)

    def test_edges(self):
        for book in (ONE, NO_LOTS, FREE, THREE_OF_SEVEN):
            self.gives(book, least_book, book)
        told = tuple((tuple(range(deed)),) for deed in range(8))
        self.gives(told, least_book, CHAIN)
        self.gives(((), ()), least_book, EACH_OTHER)
        self.gives((((),), *((),) * 7), least_book, FORTY)
        self.gives(FREE, least_book, FORTY_LAST)

    def test_small_books(self):
        for book in [*some_books(), HALF_BARRED]:
            found = least_book(book)
            self.gives(told_least_book(book), least_book, book)
            self.assertTrue(is_book(found))
            self.assertEqual(states(found), told_states(book))
            self.assertEqual(spare_lots(found), [])

    def test_books_of_the_same_states_have_the_same_least_book(self):
        found = {}
        for book in all_books(3):
            found.setdefault(tuple(states(book)), set()).add(least_book(book))
        for books in found.values():
            self.assertEqual(len(books), 1)
        self.assertEqual(len(set().union(*found.values())), len(found))


class Alike(Soon):
    def test_example(self):
        other = (((),), ((0,), (0, 2), (2,)), ((),))
        self.gives(True, are_alike, B, other)
        self.gives(None, unlike_state, B, other)
        self.gives(False, are_alike, B, (((),), ((0,),), ((),)))
        self.gives((1, 2), unlike_state, B, (((),), ((0,),), ((),)))
        self.gives((1, 2), unlike_state, (((),), ((0,),), ((),)), B)
        self.gives((0,), unlike_state, B, ((), ((2,),), ((),)))

    def test_all_pairs_of_small_books(self):
        pairs = [
            *itertools.product(all_books(1), repeat=2),
            *itertools.product(all_books(2), repeat=2),
            *itertools.product(all_books(3)[::71], repeat=2),
        ]
        for book, other in pairs:
            unlike = sorted(set(told_states(book)) ^ set(told_states(other)))
            self.gives(not unlike, are_alike, book, other)
            self.gives(unlike[0] if unlike else None, unlike_state, book, other)

    def test_eight_deeds(self):
        self.gives(True, are_alike, FREE, FORTY_LAST)
        self.gives(False, are_alike, FREE, CHAIN)
        self.gives((0, 1, 2, 3, 4, 5, 7), unlike_state, FREE, CHAIN)
        self.gives(tuple(range(8)), unlike_state, THREE_OF_SEVEN, (((),),) * 7 + ((),))
        self.gives((0,), unlike_state, NO_LOTS, FREE)
        self.gives(True, are_alike, HALF_BARRED, least_book(HALF_BARRED))

    def test_bad_sizes(self):
        for function in (are_alike, unlike_state):
            self.refuses(BadSizes, function, B, ONE)
            self.refuses(BadSizes, function, ONE, B)
            self.refuses(BadSizes, function, ONE, ((), ()))
            self.refuses(BadSizes, function, FREE, FREE[1:])


class SpareLots(Soon):
    def test_examples(self):
        self.gives([], spare_lots, B)
        self.gives([(0, (1,)), (1, (0, 2)), (1, (2,))], spare_lots, SPARE)

    def test_one_may_be_taken_out_but_not_both(self):
        book = (((),), ((0,),), ((0,),), ((1,), (1, 2), (2,)))
        self.gives([(3, (1, 2))], spare_lots, book)
        book = (((),), ((0,), (2,)), ((0,), (1,)))
        self.gives([(1, (2,)), (2, (1,))], spare_lots, book)
        # Behind (0, 1) or behind (0, 2), with 1 and 2 done behind 0 alone.
        book = (((),), ((0, 2),), ((0,),), ((0, 1), (1, 2)))
        self.gives([(3, (0, 1)), (3, (1, 2))], spare_lots, book)

    def test_all_lots_of_barred_deeds(self):
        self.gives([(0, (1,)), (1, (0,))], spare_lots, EACH_OTHER)
        self.gives([(1, (0,))], spare_lots, NEVER)
        self.gives([], spare_lots, ONE)
        self.gives([], spare_lots, NO_LOTS)

    def test_by_taking_each_out(self):
        for book in [*some_books(), HALF_BARRED, *all_books(3)[1::7]]:
            self.gives(told_spare_lots(book), spare_lots, book)

    def test_forty_lots(self):
        self.gives([(0, lot) for lot in FORTY[0][1:]], spare_lots, FORTY)
        self.gives([(7, lot) for lot in FORTY_LAST[7][1:]], spare_lots, FORTY_LAST)
        self.gives([], spare_lots, THREE_OF_SEVEN)
        self.gives([], spare_lots, FREE)
        chance = random.Random(3)
        for _ in range(3):
            book = random_book(8, 12, chance)
            self.gives(told_spare_lots(book), spare_lots, book)


def told_fault(family):
    """The first fault of a family, as the document words it."""
    sets = sorted(set(family))
    if () not in sets:
        return ("none",)
    for one in sets:
        if one != () and all(tuple(sorted(set(one) - {deed})) not in sets for deed in one):
            return ("step", one)
    for one in sets:
        for other in sets:
            if one < other and tuple(sorted({*one, *other})) not in sets:
                return ("union", one, other)
    return None


class Families(Soon):
    def agrees(self, count, family):
        """family_fault and book_of say what the document says of a family."""
        told = told_fault(family)
        self.gives(told, family_fault, count, family)
        found = book_of(count, family)
        if told is not None:
            self.assertIsNone(found)
            return
        self.assertTrue(is_book(found))
        self.assertEqual(len(found), count)
        self.assertEqual(told_states(found), sorted(set(family)))
        self.assertEqual(found, told_least_book(found))

    def test_examples(self):
        self.gives(B, book_of, 3, states(B))
        self.gives(None, family_fault, 3, states(B))
        self.gives(("none",), family_fault, 3, [(0,), (1,)])
        self.gives(("step", (0, 1)), family_fault, 3, [(), (0, 1), (1, 2)])
        self.gives(("union", (0,), (1,)), family_fault, 3, [(2,), (1,), (), (0,)])
        self.gives(None, book_of, 3, [(2,), (1,), (), (0,)])

    def test_of_the_faults_the_first_one(self):
        self.gives(("none",), family_fault, 3, [(0, 1), (0,), (2,)])
        self.gives(("step", (0, 1, 2)), family_fault, 3, [(), (0,), (2,), (0, 1, 2)])
        self.gives(("step", (1, 2)), family_fault, 3, [(1, 2), (0,), (0, 1), ()])
        self.gives(("step", (1, 2)), family_fault, 4, [(2, 3), (1, 2), (0,), ()])
        family = [(), (0,), (2,), (0, 1), (1,), (0, 2)]
        self.gives(("union", (0, 1), (0, 2)), family_fault, 3, family)
        self.gives(("union", (0,), (1, 2)), family_fault, 3, [(1, 2), (0,), (1,), (0, 1), ()])
        self.gives(("union", (0,), (2,)), family_fault, 4, [(2,), (0,), (0, 1), ()])

    def test_no_sets(self):
        for count in range(1, 9):
            for family in ([], ()):
                self.gives(("none",), family_fault, count, family)
                self.gives(None, book_of, count, family)

    def test_the_empty_set_alone(self):
        for count in range(1, 9):
            for family in ([()], ((),), [(), ()]):
                self.gives(None, family_fault, count, family)
                self.gives(((),) * count, book_of, count, family)

    def test_all_families_of_two_deeds_and_of_three(self):
        for count in (1, 2, 3):
            for family in subsets(subsets(range(count))):
                self.agrees(count, list(family))
                self.agrees(count, family[::-1])

    def test_states_of_books(self):
        for book in [*some_books(), HALF_BARRED, FREE, CHAIN, THREE_OF_SEVEN, NO_LOTS]:
            family = states(book)
            for sets in (family, tuple(family), family[::-1]):
                self.gives(None, family_fault, len(book), sets)
                self.gives(least_book(book), book_of, len(book), sets)

    def test_states_of_books_less_one_and_more_one(self):
        chance = random.Random(7)
        for book in [*some_books()[-60:], HALF_BARRED]:
            family = states(book)
            chance.shuffle(family)
            for at in range(min(len(family), 6)):
                self.agrees(len(book), [*family[:at], *family[at + 1 :]])
            for more in subsets(range(len(book)))[:12]:
                self.agrees(len(book), (*family, more))

    def test_like_entries(self):
        self.gives(B, book_of, 3, [*states(B), *states(B)])
        self.gives(("union", (0,), (1,)), family_fault, 2, [(1,), (0,), (), (1,), (0,), ()])
        self.gives(((),), book_of, 1, [()] * 256)
        self.gives((((),),), book_of, 1, ((), (0,)) * 128)

    def test_256_entries_and_257(self):
        family = subsets(range(8))
        self.gives(FREE, book_of, 8, family)
        self.gives(None, family_fault, 8, tuple(family))
        self.refuses(BadFamily, book_of, 8, [*family, ()])
        self.refuses(BadFamily, family_fault, 8, (*family, ()))
        self.refuses(BadFamily, family_fault, 1, [()] * 257)
        self.refuses(BadFamily, family_fault, 8, [None] * 257)

    def test_deeds_that_no_set_has(self):
        self.gives((((),), (), ()), book_of, 3, [(), (0,)])
        self.gives(((), (), ((),)), book_of, 3, [(), (2,)])
        self.gives(((),) * 7 + (((),),), book_of, 8, [(7,), ()])


class WrongFamilies(Soon):
    WRONG = [
        [[]],
        [[0]],
        [(), [0]],
        [(), (0,), [1]],
        ((), [0]),
        [(1, 0)],
        [(), (0, 0)],
        [(), (3,)],
        [(), (-1,)],
        [(), (10**29,)],
        [(), (True,)],
        [(), (False,)],
        [(), (0, True)],
        [(), ("0",)],
        [(), ((0,),)],
        [(), ((),)],
        [(), None],
        [None],
        [0],
        [True],
        [""],
        ["0"],
        [{}],
        [()] * 257,
        ((),) * 257,
        (0,),
        (1, 2),
        {},
        {(): True},
        {()},
        "",
        "01",
        None,
        0,
        range(0),
    ]

    def test_bad_family(self):
        told = [(), [], ((),), [()]]
        others = [thing for thing in any_objects() if not is_one_of(thing, told)]
        for function in (book_of, family_fault):
            for thing in [*self.WRONG, *others]:
                self.refuses(BadFamily, function, 3, thing)
            for thing in any_objects():
                if not is_one_of(thing, [(), (0,)]):
                    self.refuses(BadFamily, function, 3, [(), thing])
                    self.refuses(BadFamily, function, 3, (thing, ()))
            self.refuses(BadFamily, function, 1, [(), (1,)])
            self.refuses(BadFamily, function, 7, [(), (7,)])
            self.refuses(BadFamily, function, 8, [(), (8,)])

    def test_bad_number(self):
        for function in (book_of, family_fault):
            for thing in [0, 9, -1, True, None, *wrong_integers(1, 8)]:
                self.refuses(BadNumber, function, thing, [()])
                self.refuses(BadNumber, function, thing, None)
