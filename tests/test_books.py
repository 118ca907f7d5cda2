"""Promise [4]: books, what may be done, states."""

import itertools
import math
import unittest

from opendeeds.books import is_book, is_state, may, state_counts, states
from opendeeds.errors import BadBook, BadDone
from samples import B, CHAIN, DEEP, EACH_OTHER, FORTY, FREE, NEVER, ONE, TOWERS, WRONG_BOOKS
from samples import Soon, all_books, no_tuples, subsets, told_may, told_states, wrong_books

GOOD_BOOKS = [
    B,
    NEVER,
    EACH_OTHER,
    FREE,
    CHAIN,
    ONE,
    FORTY,
    (((),),),
    ((), ()),
    ((),) * 8,
    (((), (1,), (1, 2), (2,)), (), ()),
    ((), (), (), (), (), (), (), ((0, 1, 2, 3, 4, 5, 6),)),
    (((1, 2, 3, 4, 5, 6, 7),), (), (), (), (), (), (), ()),
]

WRONG_DONE_FOR_THREE = [
    [],
    [0],
    (1, 0),
    (2, 1),
    (0, 0),
    (0, 1, 1),
    (3,),
    (0, 1, 2, 3),
    (10**29,),
    (-1,),
    (-1, 0),
    (True,),
    (False,),
    (0, True),
    (False, 1),
    ("0",),
    ((0,),),
    ((),),
    ([0],),
    (None,),
    (0, None),
    (b"\x00",),
    ({},),
    tuple(range(1000)),
]


def wrong_done():
    """Things that are no done set of three deeds, of all kinds."""
    return [*WRONG_DONE_FOR_THREE, *no_tuples(), *TOWERS, *DEEP]


class IsBook(Soon):
    def test_books(self):
        for book in GOOD_BOOKS:
            with self.subTest(book):
                self.assertIs(is_book(book), True)

    def test_all_books_of_few_deeds(self):
        for count in (1, 2, 3):
            for book in all_books(count):
                self.assertIs(is_book(book), True)

    def test_no_books(self):
        for name, thing in WRONG_BOOKS.items():
            with self.subTest(name):
                self.assertIs(is_book(thing), False)

    def test_any_object(self):
        for thing in no_tuples():
            self.assertIs(is_book(thing), False)
            self.assertIs(is_book((thing,)), False)
            self.assertIs(is_book(((), thing)), False)
            self.assertIs(is_book((((), thing), ())), False)

    def test_things_in_place_of_a_deed(self):
        for thing in no_tuples():
            if not (type(thing) is int and thing == 1):
                self.assertIs(is_book((((thing,),), ())), False)

    def test_deep_and_shared_things(self):
        for thing in [*TOWERS, *DEEP]:
            self.assertIs(is_book(thing), False)
            self.assertIs(is_book((thing, thing)), False)
            self.assertIs(is_book(((thing, thing), ())), False)
            self.assertIs(is_book((((thing, thing),), ())), False)

    def test_two_like_towers_as_lots_and_deeds(self):
        one, other = TOWERS[0], TOWERS[1]
        for thing in ((one, other), ((one, other),), (((one, other),),), (((), one, other), ())):
            self.assertIs(is_book(thing), False)

    def test_by_name(self):
        self.assertIs(is_book(thing=B), True)
        self.assertIs(is_book(thing=None), False)


class BadBooks(Soon):
    CALLS = {
        "may": lambda book: may(book, ()),
        "may, with a wrong done set": lambda book: may(book, None),
        "is_state": lambda book: is_state(book, ()),
        "is_state, with no state": lambda book: is_state(book, None),
        "states": states,
        "state_counts": state_counts,
    }

    def test_each_function_raises_it(self):
        for name, call in self.CALLS.items():
            for thing in wrong_books():
                with self.subTest(name), self.assertRaises(BadBook) as caught:
                    call(thing)
                self.assertIs(type(caught.exception), BadBook)

    def test_none_raises_it_for_a_book(self):
        for book in GOOD_BOOKS:
            self.assertEqual(may(book, ()), told_may(book, ()))
            self.assertIs(is_state(book, ()), True)
            self.assertEqual(states(book), told_states(book))
            self.assertEqual(sum(state_counts(book)), len(told_states(book)))


class May(Soon):
    def test_example(self):
        self.assertEqual(may(B, ()), [0, 2])
        self.assertEqual(may(B, (0,)), [1, 2])
        self.assertEqual(may(B, (0, 1, 2)), [])

    def test_behind_done_sets_that_are_not_come_to(self):
        self.assertEqual(may(B, (1,)), [0, 2])
        self.assertEqual(may(NEVER, (0,)), [1, 2])
        self.assertEqual(may(EACH_OTHER, (0,)), [1])
        self.assertEqual(may(EACH_OTHER, (0, 1)), [])

    def test_a_deed_without_lots_never(self):
        for done in subsets([1, 2]):
            self.assertNotIn(0, may(NEVER, done))

    def test_a_deed_with_the_empty_lot_from_the_beginning(self):
        self.assertEqual(may(FREE, ()), [0, 1, 2, 3, 4, 5, 6, 7])
        self.assertEqual(may((((), (1,)), ()), ()), [0])

    def test_all_deeds_of_one_lot_are_wanted(self):
        book = ((), (), (), ((0, 1), (2,)))
        self.assertEqual(may(book, (0,)), [])
        self.assertEqual(may(book, (1,)), [])
        self.assertEqual(may(book, (0, 1)), [3])
        self.assertEqual(may(book, (2,)), [3])
        self.assertEqual(may(book, (2, 3)), [])

    def test_the_last_of_forty_lots(self):
        last = FORTY[0][-1]
        self.assertEqual(may(((last,),) + ((),) * 7, last), [0])
        self.assertEqual(may(FORTY, ()), [0])

    def test_all_books_of_few_deeds(self):
        for count in (1, 2, 3):
            for book in all_books(count):
                for done in subsets(range(count)):
                    self.assertEqual(may(book, done), told_may(book, done))

    def test_bad_done(self):
        for thing in wrong_done():
            with self.assertRaises(BadDone) as caught:
                may(B, thing)
            self.assertIs(type(caught.exception), BadDone)

    def test_deeds_are_those_of_the_book(self):
        with self.assertRaises(BadDone):
            may(ONE, (1,))
        self.assertEqual(may(FREE, (7,)), [0, 1, 2, 3, 4, 5, 6])
        with self.assertRaises(BadDone):
            may(FREE, (8,))

    def test_a_new_list_each_time(self):
        first = may(B, ())
        self.assertIs(type(first), list)
        first.append(7)
        self.assertEqual(may(B, ()), [0, 2])

    def test_what_may_be_done_stays_so_until_it_is(self):
        for book in all_books(3)[::7]:
            for state in states(book):
                ahead = may(book, state)
                for deed in ahead:
                    after = tuple(sorted((*state, deed)))
                    self.assertLessEqual(set(ahead) - {deed}, set(may(book, after)))

    def test_by_name(self):
        self.assertEqual(may(book=B, done=(0,)), [1, 2])
        self.assertEqual(may(done=(0,), book=B), [1, 2])
        with self.assertRaises(BadBook):
            may(done=None, book=None)


class States(Soon):
    def test_example(self):
        self.assertEqual(states(B), [(), (0,), (0, 1), (0, 1, 2), (0, 2), (1, 2), (2,)])
        self.assertEqual(state_counts(B), [1, 2, 3, 1])

    def test_a_deed_that_can_never_be_done(self):
        self.assertEqual(states(NEVER), [(), (2,)])
        self.assertEqual(state_counts(NEVER), [1, 1])
        self.assertEqual(states(EACH_OTHER), [()])
        self.assertEqual(state_counts(EACH_OTHER), [1])
        self.assertEqual(state_counts(ONE), [1])

    def test_eight_deeds_all_at_once(self):
        self.assertEqual(states(FREE), subsets(range(8)))
        self.assertEqual(len(states(FREE)), 256)
        self.assertEqual(state_counts(FREE), [math.comb(8, size) for size in range(9)])

    def test_eight_deeds_one_behind_the_other(self):
        self.assertEqual(states(CHAIN), [tuple(range(size)) for size in range(9)])
        self.assertEqual(state_counts(CHAIN), [1] * 9)

    def test_forty_lots(self):
        self.assertEqual(states(FORTY), [(), (0,)])

    def test_all_books_of_few_deeds(self):
        for count in (1, 2, 3):
            for book in all_books(count):
                told = told_states(book)
                self.assertEqual(states(book), told)
                sizes = [len(state) for state in told]
                self.assertEqual(
                    state_counts(book), [sizes.count(size) for size in range(max(sizes) + 1)]
                )
                for done in subsets(range(count)):
                    self.assertIs(is_state(book, done), done in told)

    def test_closed_under_union(self):
        for book in [*all_books(3)[::5], B, FREE, CHAIN, NEVER, FORTY]:
            found = set(states(book))
            for one, other in itertools.islice(itertools.combinations(sorted(found), 2), 3000):
                self.assertIn(tuple(sorted({*one, *other})), found)

    def test_new_lists_of_tuples(self):
        first = states(B)
        self.assertIs(type(first), list)
        self.assertEqual({type(state) for state in first}, {tuple})
        self.assertEqual({type(deed) for state in first for deed in state}, {int})
        first.clear()
        self.assertEqual(len(states(B)), 7)
        counts = state_counts(B)
        self.assertIs(type(counts), list)
        self.assertEqual({type(many) for many in counts}, {int})
        counts.clear()
        self.assertEqual(state_counts(B), [1, 2, 3, 1])

    def test_by_name(self):
        self.assertEqual(states(book=NEVER), [(), (2,)])
        self.assertEqual(state_counts(book=NEVER), [1, 1])


class IsState(Soon):
    def test_states_and_done_sets_that_are_none(self):
        for done in subsets(range(8)):
            self.assertIs(is_state(FREE, done), True)
            self.assertIs(is_state(CHAIN, done), done == tuple(range(len(done))))
        self.assertIs(is_state(B, (1,)), False)
        self.assertIs(is_state(NEVER, (0, 2)), False)
        self.assertIs(is_state(NEVER, (1, 2)), False)

    def test_a_lot_from_within_is_not_enough(self):
        self.assertIs(is_state(EACH_OTHER, (0, 1)), False)
        self.assertIs(is_state(EACH_OTHER, ()), True)

    def test_any_object(self):
        for thing in wrong_done():
            self.assertIs(is_state(B, thing), False)

    def test_things_in_place_of_a_deed(self):
        for thing in [*no_tuples(), *TOWERS, *DEEP]:
            if not (type(thing) is int and thing == 0):
                self.assertIs(is_state(B, (thing,)), False)
            self.assertIs(is_state(B, (0, thing)), type(thing) is int and thing == 1)

    def test_by_name(self):
        self.assertIs(is_state(book=B, thing=(0,)), True)
        self.assertIs(is_state(thing=(1,), book=B), False)
        with self.assertRaises(BadBook):
            is_state(thing=(0,), book=None)


if __name__ == "__main__":
    unittest.main()
