"""Promises [15], [16] and [17]: books of orders and of runs, and the fewest runs that make a book."""

import itertools
import random

from opendeeds.books import is_book, states
from opendeeds.errors import BadBook, BadNumber, BadPairs, BadReach, BadRuns, BadSizes, NotOrder
from opendeeds.least import book_of, least_book, ways
from opendeeds.orders import is_order, joined, most_ways, of_runs, order_book, order_pairs
from opendeeds.orders import runs_for, runs_make
from opendeeds.runs import is_run, reach
from samples import B, CHAIN, EACH_OTHER, FORTY, FORTY_LAST, FREE, HALF_BARRED, NEVER, NO_LOTS, ONE
from samples import RUNS_499, RUNS_501, THREE_OF_SEVEN
from samples import Soon, all_books, any_objects, is_one_of, random_book, some_books, subsets
from samples import told_full_runs, told_reach, told_states, told_ways, wrong_books, wrong_integers

FORWARD = tuple(range(8))

# Things that are no pairs of unlike deeds of three.
NO_PAIRS_OF_THREE = [
    ((0, 0),),
    ((0, 1), (2, 2)),
    ((0, 3),),
    ((3, 0),),
    ((-1, 0),),
    ((0, -1),),
    ((0, 10**29),),
    ((0,),),
    ((0, 1, 2),),
    ((),),
    ((0, 1), ()),
    ((0, True),),
    ((False, 1),),
    ((True, False),),
    (("0", "1"),),
    ((0, None),),
    ((0, (1,)),),
    ([0, 1],),
    ((0, 1), [1, 2]),
    [(0, 1)],
    [],
    (0, 1),
    ("01",),
    "01",
    {(0, 1)},
    {(0, 1): True},
    ((0, 1), None),
    None,
]


def union(*sets):
    """The ascending tuple of the deeds of these sets."""
    return tuple(sorted(set().union(*sets)))


def wholes(most):
    """Books all of whose deeds are of reach, of one to so many deeds."""
    found = [((((),)),), B, (((),), ((),)), (((),), ((0,),))]
    found += [book for book in some_books(most) if len(told_reach(book)) == len(book)]
    return found


class OrderBook(Soon):
    def test_the_deeds_ahead_as_the_one_lot(self):
        self.gives((((),), ((0,),), ((1,),)), order_book, 3, ((0, 1), (1, 2)))
        self.gives((((),), ((0,),), ((0, 1),)), order_book, 3, ((1, 2), (0, 2), (0, 1)))
        self.gives((((1, 2),), ((),), ((),)), order_book, 3, ((2, 0), (1, 0)))

    def test_no_pairs(self):
        for count in range(1, 9):
            self.gives((((),),) * count, order_book, count, ())

    def test_the_same_pair_twice(self):
        self.gives((((),), ((0,),)), order_book, 2, ((0, 1), (0, 1)))
        self.gives((((),), ((0,),), ((0, 1),)), order_book, 3, ((0, 2), (0, 1), (1, 2), (0, 2)) * 50)

    def test_pairs_that_lead_round(self):
        book = order_book(3, ((0, 1), (1, 2), (2, 0)))
        self.assertEqual(book, (((2,),), ((0,),), ((1,),)))
        self.assertEqual(reach(book), ())
        book = order_book(4, ((0, 1), (1, 0), (1, 2)))
        self.assertEqual(book, (((1,),), ((0,),), ((1,),), ((),)))
        self.assertEqual(reach(book), (3,))

    def test_all_pairs_of_three(self):
        pairs = list(itertools.permutations(range(3), 2))
        for chosen in subsets(pairs):
            told = tuple((tuple(deed for deed in range(3) if (deed, other) in chosen),) for other in range(3))
            for sequence in (chosen, chosen[::-1]):
                self.gives(told, order_book, 3, sequence)

    def test_eight_deeds(self):
        self.gives(CHAIN, order_book, 8, tuple((deed, deed + 1) for deed in range(7)))
        every = tuple(itertools.permutations(range(8), 2))
        book = tuple((tuple(deed for deed in range(8) if deed != other),) for other in range(8))
        self.gives(book, order_book, 8, every)
        self.assertTrue(is_book(book))

    def test_bad_pairs(self):
        for thing in NO_PAIRS_OF_THREE:
            self.refuses(BadPairs, order_book, 3, thing)
        for thing in any_objects():
            if not is_one_of(thing, [()]):
                self.refuses(BadPairs, order_book, 3, thing)
            self.refuses(BadPairs, order_book, 3, (thing,))
            self.refuses(BadPairs, order_book, 3, ((0, 1), thing))
            if not is_one_of(thing, [0, 1, 2]):
                self.refuses(BadPairs, order_book, 3, ((0, thing),))
                self.refuses(BadPairs, order_book, 3, ((thing, 0),))
        self.refuses(BadPairs, order_book, 1, ((0, 0),))
        self.refuses(BadPairs, order_book, 1, ((0, 1),))
        self.refuses(BadPairs, order_book, 8, ((0, 8),))
        self.refuses(BadPairs, order_book, 7, ((7, 0),))

    def test_bad_number(self):
        for thing in wrong_integers(1, 8):
            self.refuses(BadNumber, order_book, thing, ())
            self.refuses(BadNumber, order_book, thing, None)


def told_is_order(book):
    """Whether what each two states have in common is a state."""
    told = told_states(book)
    pairs = itertools.combinations(told, 2)
    return all(tuple(sorted(set(state) & set(other))) in told for state, other in pairs)


def told_order_pairs(book):
    """The pairs of deeds of which each full run has the first ahead of the second."""
    runs = told_full_runs(book)
    return [
        (deed, other)
        for deed, other in itertools.permutations(told_reach(book), 2)
        if all(run.index(deed) < run.index(other) for run in runs)
    ]


class Orders(Soon):
    def test_examples(self):
        self.gives(False, is_order, B)
        self.refuses(NotOrder, order_pairs, B)
        self.gives(True, is_order, NEVER)
        self.gives([], order_pairs, NEVER)
        book = order_book(4, ((0, 1), (1, 2), (3, 2)))
        self.gives(True, is_order, book)
        self.gives([(0, 1), (0, 2), (1, 2), (3, 2)], order_pairs, book)

    def test_edges(self):
        for book in (ONE, NO_LOTS, EACH_OTHER, FREE, FORTY, FORTY_LAST):
            self.gives(True, is_order, book)
            self.gives([], order_pairs, book)
        self.gives(True, is_order, CHAIN)
        self.gives(list(itertools.combinations(range(8), 2)), order_pairs, CHAIN)
        self.gives(False, is_order, THREE_OF_SEVEN)
        self.refuses(NotOrder, order_pairs, THREE_OF_SEVEN)

    def test_several_lots_but_one_way(self):
        book = (((),), ((0,), (0, 2), (3,)), ((),), ())
        self.gives(True, is_order, book)
        self.gives([(0, 1)], order_pairs, book)

    def test_small_books(self):
        for book in [*all_books(1), *all_books(2), *all_books(3), *some_books(), HALF_BARRED]:
            told = told_is_order(book)
            self.gives(told, is_order, book)
            if told:
                self.gives(told_order_pairs(book), order_pairs, book)
            else:
                self.refuses(NotOrder, order_pairs, book)

    def test_just_if_each_deed_of_reach_has_one_way(self):
        for book in [*some_books(), HALF_BARRED]:
            one = all(len(ways(book, deed)) == 1 for deed in told_reach(book))
            self.gives(one, is_order, book)

    def test_books_of_pairs(self):
        chance = random.Random(6)
        for count in range(1, 9):
            for _ in range(12):
                pairs = [(chance.randrange(count), chance.randrange(count)) for _ in range(count)]
                book = order_book(count, tuple(pair for pair in pairs if pair[0] != pair[1]))
                self.gives(True, is_order, book)
                if count < 7:
                    self.gives(told_order_pairs(book), order_pairs, book)


def told_unions(runs):
    """The unions of a beginning, perhaps an empty one, of each of the runs."""
    found = {()}
    for run in runs:
        beginnings = [run[:size] for size in range(len(run) + 1)]
        found = {union(state, beginning) for state in found for beginning in beginnings}
    return sorted(found)


# Things that are no runs of each of three deeds.
NO_RUNS_OF_THREE = [
    (),
    ((0, 1),),
    ((0, 1, 2), (0, 1)),
    ((0, 1, 2), ()),
    ((),),
    ((0, 1, 2, 0),),
    ((0, 1, 1),),
    ((0, 0, 1),),
    ((0, 1, 3),),
    ((1, 2, 3),),
    ((-1, 0, 1),),
    ((0, 1, 10**29),),
    ((0, True, 2),),
    ((False, 1, 2),),
    ((0, 1, "2"),),
    ((0, 1, None),),
    ((0, 1, (2,)),),
    ([0, 1, 2],),
    ((0, 1, 2), [0, 1, 2]),
    [(0, 1, 2)],
    [],
    (0, 1, 2),
    ("012",),
    (range(3),),
    ({0: 0, 1: 1, 2: 2},),
    {(0, 1, 2)},
    ((0, 1, 2), None),
    ((0, 1, 2),) * 9,
    "012",
    None,
]


class OfRuns(Soon):
    def test_examples(self):
        self.gives(B, of_runs, 3, ((0, 1, 2), (2, 1, 0)))
        self.gives((((),), ((0,),), ((0, 1),)), of_runs, 3, ((0, 1, 2),))
        self.gives((((),), ((),)), of_runs, 2, ((0, 1), (1, 0)))

    def test_one_tuple(self):
        told = tuple((tuple(range(deed)),) for deed in range(8))
        self.gives(told, of_runs, 8, (FORWARD,))
        self.gives((((),),), of_runs, 1, ((0,),))

    def test_like_ones(self):
        self.gives(B, of_runs, 3, ((0, 1, 2), (2, 1, 0), (2, 1, 0), (0, 1, 2)))
        self.gives((((),),), of_runs, 1, ((0,),) * 8)

    def test_eight_and_nine(self):
        turned = tuple(FORWARD[at:] + FORWARD[:at] for at in range(8))
        self.gives(FREE, of_runs, 8, turned)
        self.refuses(BadRuns, of_runs, 8, (*turned, FORWARD))
        self.refuses(BadRuns, of_runs, 1, ((0,),) * 9)

    def test_the_unions_of_beginnings(self):
        chance = random.Random(7)
        for count in range(1, 9):
            for many in (1, 2, 3, 8):
                runs = tuple(tuple(chance.sample(range(count), count)) for _ in range(many))
                book = of_runs(count, runs)
                self.assertTrue(is_book(book))
                self.assertEqual(len(book), count)
                self.assertEqual(states(book), told_unions(runs))
                self.gives(least_book(book), of_runs, count, runs)
                self.assertTrue(all(is_run(book, run) for run in runs))

    def test_all_runs_of_three(self):
        for runs in subsets(list(itertools.permutations(range(3))))[1:]:
            self.gives(book_of(3, told_unions(runs)), of_runs, 3, runs)

    def test_the_full_runs_of_a_book_make_it(self):
        for book in wholes(4):
            runs = tuple(told_full_runs(book))
            if len(runs) <= 8:
                self.gives(least_book(book), of_runs, len(book), runs)

    def test_bad_runs(self):
        for thing in [*NO_RUNS_OF_THREE, *any_objects()]:
            self.refuses(BadRuns, of_runs, 3, thing)
            if not is_one_of(thing, [(0, 1, 2)]):
                self.refuses(BadRuns, of_runs, 3, (thing,))
                self.refuses(BadRuns, of_runs, 3, ((0, 1, 2), thing))
            if not is_one_of(thing, [2]):
                self.refuses(BadRuns, of_runs, 3, ((0, 1, thing),))
        self.refuses(BadRuns, of_runs, 1, ((),))
        self.refuses(BadRuns, of_runs, 1, ((1,),))
        self.refuses(BadRuns, of_runs, 8, (FORWARD, FORWARD[1:]))
        self.refuses(BadRuns, of_runs, 8, (FORWARD, (0, *FORWARD[:7])))
        self.refuses(BadRuns, of_runs, 2, ((0, 1, 2),))

    def test_bad_number(self):
        for thing in wrong_integers(1, 8):
            self.refuses(BadNumber, of_runs, thing, ((0,),))
            self.refuses(BadNumber, of_runs, thing, None)


class Joined(Soon):
    def test_examples(self):
        one = of_runs(3, ((0, 1, 2),))
        self.gives(B, joined, one, of_runs(3, ((2, 1, 0),)))
        self.gives(B, joined, B, B)
        self.gives(FREE, joined, FREE, CHAIN)
        self.gives((((),),), joined, (((),),), (((),),))

    def test_the_unions_of_a_state_of_each(self):
        books = [book for book in wholes(5) if len(book) > 1]
        chance = random.Random(8)
        for book in books:
            for other in chance.choices([some for some in books if len(some) == len(book)], k=4):
                told = {union(state, more) for state in told_states(book) for more in told_states(other)}
                found = joined(book, other)
                self.assertEqual(states(found), sorted(told))
                self.gives(least_book(found), joined, book, other)

    def test_eight_deeds(self):
        family = [union(state, more) for state in states(CHAIN) for more in states(THREE_OF_SEVEN)]
        self.gives(book_of(8, sorted(set(family))), joined, CHAIN, THREE_OF_SEVEN)
        self.gives(least_book(CHAIN), joined, CHAIN, CHAIN)

    def test_a_barred_deed(self):
        self.refuses(BadReach, joined, NEVER, B)
        self.refuses(BadReach, joined, B, NEVER)
        self.refuses(BadReach, joined, NEVER, NEVER)
        self.refuses(BadReach, joined, ONE, (((),),))
        self.refuses(BadReach, joined, (((),),), ONE)
        self.refuses(BadReach, joined, FREE, HALF_BARRED)

    def test_unlike_numbers_of_deeds(self):
        self.refuses(BadSizes, joined, B, FREE)
        self.refuses(BadSizes, joined, FREE, B)
        self.refuses(BadSizes, joined, (((),),), (((),), ((),)))

    def test_both_at_once(self):
        self.refuses(BadSizes, joined, B, ONE)
        self.refuses(BadSizes, joined, B, HALF_BARRED)
        self.refuses(BadReach, joined, ONE, B)
        self.refuses(BadReach, joined, NEVER, HALF_BARRED)

    def test_bad_book(self):
        for thing in wrong_books():
            self.refuses(BadReach, joined, NEVER, thing)
            self.refuses(BadBook, joined, thing, NEVER)
            self.refuses(BadBook, joined, B, thing)


def told_all_ways(book):
    """The ways to all deeds, ascending."""
    return sorted({way for deed in told_reach(book) for way in told_ways(book, deed)})


def are_apart(sets):
    """Whether none of the sets lies within another."""
    return not any(set(one) < set(other) for one, other in itertools.permutations(sets, 2))


def told_most_ways(book):
    """The greatest number of ways apart from one another, and the first tuple of so many."""
    found = [()]
    for way in told_all_ways(book):
        found += [(*chosen, way) for chosen in found if are_apart((*chosen, way))]
    most = max(len(chosen) for chosen in found)
    return most, min(chosen for chosen in found if len(chosen) == most)


def told_makes(book, runs):
    """Whether each state is a union of beginnings of these full runs."""
    return set(told_states(book)) <= set(told_unions(runs))


def told_fewest(book):
    """How few full runs make the book, by trying more and more of them."""
    full = told_full_runs(book)
    for many in range(1, len(full) + 1):
        if any(told_makes(book, runs) for runs in itertools.combinations(full, many)):
            return many
    raise AssertionError(book)


class MostWays(Soon):
    def test_example(self):
        self.gives((2, ((0,), (1, 2))), most_ways, B)

    def test_edges(self):
        self.gives((1, ((0,),)), most_ways, (((),),))
        self.gives((8, tuple((deed,) for deed in range(8))), most_ways, FREE)
        self.gives((8, tuple((deed,) for deed in range(8))), most_ways, FORTY_LAST)
        self.gives((1, ((0,),)), most_ways, CHAIN)
        told = tuple((*three, 7) for three in itertools.combinations(range(7), 3))
        self.gives((35, told), most_ways, THREE_OF_SEVEN)

    def test_the_first_of_several(self):
        self.gives((2, ((0,), (1,))), most_ways, (((),), ((),), ((0, 1),)))
        book = (((2,),), ((),), ((),))
        self.gives((2, ((0, 2), (1,))), most_ways, book)
        book = (((1,),), ((),), ((3,),), ((),))
        self.gives((2, ((0, 1), (2, 3))), most_ways, book)

    def test_going_through_all_sets_of_ways(self):
        books = [*wholes(5), RUNS_499, RUNS_501]
        for book in books:
            self.gives(told_most_ways(book), most_ways, book)

    def test_tuples_that_compare_otherwise_than_their_sizes(self):
        chance = random.Random(9)
        tried = 0
        while tried < 40:
            book = random_book(6, 4, chance)
            if len(told_reach(book)) == 6:
                tried += 1
                self.gives(told_most_ways(book), most_ways, book)

    def test_bad_reach(self):
        for function in (most_ways, runs_for):
            for book in (ONE, NEVER, EACH_OTHER, HALF_BARRED, NO_LOTS, FORTY):
                self.refuses(BadReach, function, book)


class RunsFor(Soon):
    def makes(self, book):
        """runs_for returns as few full runs as can make the book, and runs_make says so."""
        found = runs_for(book)
        self.assertIs(type(found), tuple)
        for run in found:
            self.assertIs(type(run), tuple)
            self.assertEqual(sorted(run), list(range(len(book))))
            self.assertTrue(is_run(book, run))
        self.assertTrue(told_makes(book, found))
        self.assertEqual(len(found), most_ways(book)[0])
        self.gives(True, runs_make, book, found)
        return len(found)

    def test_example(self):
        self.assertEqual(self.makes(B), 2)
        self.assertEqual(set(runs_for(B)), {(0, 1, 2), (2, 1, 0)})

    def test_no_fewer_runs_do(self):
        for book in wholes(4):
            self.assertEqual(self.makes(book), told_fewest(book))

    def test_greater_books(self):
        for book in [*wholes(5), RUNS_499, RUNS_501, FREE, CHAIN, FORTY_LAST, (((),),)]:
            self.makes(book)

    def test_thirty_five_runs(self):
        self.assertEqual(self.makes(THREE_OF_SEVEN), 35)


class RunsMake(Soon):
    GOOD = ((0, 1, 2), (2, 1, 0))

    def test_all_tuples_of_full_runs_of_b(self):
        full = told_full_runs(B)
        for size in range(4):
            for thing in itertools.product(full, repeat=size):
                self.gives(told_makes(B, thing), runs_make, B, thing)
                self.gives(False, runs_make, B, list(thing))

    def test_all_tuples_of_full_runs_of_small_books(self):
        for book in wholes(4)[::3]:
            full = told_full_runs(book)[:6]
            for size in range(3):
                for thing in itertools.product(full, repeat=size):
                    self.gives(told_makes(book, thing), runs_make, book, thing)

    def test_more_runs_and_like_ones(self):
        self.gives(True, runs_make, B, self.GOOD * 500)
        self.gives(True, runs_make, B, (*self.GOOD, (0, 2, 1), (2, 0, 1)))
        self.gives(False, runs_make, B, ((0, 1, 2),) * 9)

    def test_near_tuples(self):
        first, last = self.GOOD
        near = [
            (),
            (first,),
            (last,),
            (first, last[:2]),
            (first[:1], last),
            (first, last, ()),
            (first, last, (0, 2)),
            (first, last, (1, 0, 2)),
            (first, (*last, 0)),
            (first, (2, 1, 0, 3)),
            (first, (2, 1, 1)),
            (first, (2, True, 0)),
            (first, (2, 1, False)),
            ((False, 1, 2), last),
            (first, list(last)),
            [first, last],
            (*first, *last),
            ((first, last),),
            ((first,), (last,)),
            first,
            ("012", "210"),
            (first, last, None),
            (None, first, last),
            {first: last},
        ]
        for thing in near:
            self.gives(False, runs_make, B, thing)

    def test_any_object(self):
        for thing in any_objects():
            self.gives(False, runs_make, B, thing)
            self.gives(False, runs_make, B, (*self.GOOD, thing))
            self.gives(False, runs_make, B, (thing, *self.GOOD))
            self.gives(is_one_of(thing, [(0,)]), runs_make, (((),),), (thing,))
            self.gives(is_one_of(thing, [0]), runs_make, (((),),), ((thing,),))
            self.gives(is_one_of(thing, [1]), runs_make, B, ((0, 1, 2), (2, thing, 0)))

    def test_errors_of_its_partner(self):
        for book in (ONE, NEVER, EACH_OTHER, HALF_BARRED):
            self.refuses(BadReach, runs_make, book, ())
            self.refuses(BadReach, runs_make, book, None)
        for thing in wrong_books():
            self.refuses(BadBook, runs_make, thing, self.GOOD)
