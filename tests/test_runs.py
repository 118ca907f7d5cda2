"""Promises [6] and [7]: runs, deeds of reach and barred ones, full runs by their numbers."""

import itertools
import math

from opendeeds.books import states
from opendeeds.errors import BadDeed, BadNumber, BadRun, BadState, TooMany
from opendeeds.runs import bar_holds, bar_of, barred, count_runs, first_run, is_run, number_of
from opendeeds.runs import reach, run_at, runs, runs_ahead, runs_through
from samples import B, CHAIN, EACH_OTHER, FORTY, FORTY_LAST, FREE, HALF_BARRED, NEVER, NO_LOTS, ONE
from samples import RUNS_499, RUNS_500, RUNS_501, THREE_OF_SEVEN
from samples import Soon, all_books, any_objects, is_one_of, some_books, subsets, wrong_integers
from samples import told_full_runs, told_may, told_reach, told_runs, told_states

B_RUNS = [(0, 1, 2), (0, 2, 1), (2, 0, 1), (2, 1, 0)]

NO_RUNS_OF_B = [
    (1,),
    (1, 0),
    (0, 0),
    (0, 1, 0),
    (0, 1, 2, 0),
    (0, 1, 2, 3),
    (3,),
    (-1,),
    (0, -1),
    (10**29,),
    [],
    [0],
    [0, 1, 2],
    (False,),
    (0, True),
    (0, True, 2),
    (2, 1, False),
    ("0",),
    ((0,),),
    ([0],),
    (None,),
    (0, None),
    tuple(range(1000)),
]


class IsRun(Soon):
    def test_runs_full_or_not(self):
        for run in [(), (0,), (0, 1), (0, 2), (2,), (2, 0), (2, 1), *B_RUNS]:
            self.gives(True, is_run, B, run)

    def test_no_runs(self):
        for thing in NO_RUNS_OF_B:
            self.gives(False, is_run, B, thing)

    def test_a_deed_done_too_soon(self):
        self.gives(False, is_run, CHAIN, (0, 2))
        self.gives(False, is_run, CHAIN, (0, 1, 2, 3, 4, 5, 7, 6))
        self.gives(True, is_run, CHAIN, (0, 1, 2, 3, 4, 5, 6, 7))
        self.gives(False, is_run, EACH_OTHER, (0, 1))
        self.gives(False, is_run, NEVER, (2, 0))

    def test_all_tuples_of_deeds_of_small_books(self):
        for book in some_books(4):
            told = set(told_runs(book))
            for size in range(len(book) + 1):
                for thing in itertools.product(range(len(book)), repeat=size):
                    self.assertIs(is_run(book, thing), thing in told)

    def test_any_object(self):
        told = told_runs(B)
        for thing in any_objects():
            self.gives(is_one_of(thing, told), is_run, B, thing)
            self.gives(is_one_of((thing,), told), is_run, B, (thing,))
            self.gives(is_one_of((0, thing), told), is_run, B, (0, thing))


class Reach(Soon):
    def test_example(self):
        self.gives((0, 1, 2), reach, B)
        self.gives((), barred, B)

    def test_barred_deeds(self):
        self.gives((2,), reach, NEVER)
        self.gives((0, 1), barred, NEVER)
        self.gives((), reach, EACH_OTHER)
        self.gives((0, 1), barred, EACH_OTHER)
        self.gives((0, 1, 2, 7), reach, HALF_BARRED)
        self.gives((3, 4, 5, 6), barred, HALF_BARRED)

    def test_edges(self):
        self.gives((), reach, ONE)
        self.gives((0,), barred, ONE)
        self.gives((), reach, NO_LOTS)
        self.gives(tuple(range(8)), barred, NO_LOTS)
        self.gives(tuple(range(8)), reach, FREE)
        self.gives((), barred, FREE)
        self.gives((0,), reach, FORTY)
        self.gives((1, 2, 3, 4, 5, 6, 7), barred, FORTY)

    def test_small_books(self):
        for book in some_books():
            told = told_reach(book)
            self.assertEqual(reach(book), told)
            self.assertEqual(barred(book), tuple(sorted(set(range(len(book))) - set(told))))
            self.assertEqual({tuple(sorted(run)) for run in told_full_runs(book)}, {told})


def told_bar_holds(book, deed, thing):
    """Whether an ascending tuple of deeds is a bar of the deed, as the document words it."""
    return deed in thing and all(set(lot) & set(thing) for other in thing for lot in book[other])


class Bars(Soon):
    def test_deeds_of_reach_have_none(self):
        for deed in range(3):
            self.gives(None, bar_of, B, deed)
            self.gives(False, bar_holds, B, deed, None)
        for deed in (0, 1, 2, 7):
            self.gives(None, bar_of, HALF_BARRED, deed)
            self.gives(False, bar_holds, HALF_BARRED, deed, None)

    def test_barred_deeds_have_one(self):
        for book in [*some_books(), HALF_BARRED, NO_LOTS, FORTY]:
            for deed in barred(book):
                bar = bar_of(book, deed)
                self.assertIs(type(bar), tuple)
                self.assertEqual(list(bar), sorted(set(bar)))
                self.assertTrue(told_bar_holds(book, deed, bar))
                self.gives(True, bar_holds, book, deed, bar)
                self.gives(False, bar_holds, book, deed, None)
            for deed in reach(book):
                self.gives(None, bar_of, book, deed)

    def test_all_sets_of_small_books(self):
        for book in [*some_books(4), HALF_BARRED]:
            for deed in range(len(book)):
                for thing in subsets(range(len(book))):
                    told = told_bar_holds(book, deed, thing)
                    self.assertIs(bar_holds(book, deed, thing), told)
                    self.assertFalse(told and deed in reach(book))

    def test_near_bars(self):
        self.gives(True, bar_holds, EACH_OTHER, 0, (0, 1))
        self.gives(True, bar_holds, HALF_BARRED, 4, (3, 4, 5, 6))
        self.gives(True, bar_holds, HALF_BARRED, 4, (3, 4, 6))
        self.gives(True, bar_holds, HALF_BARRED, 6, (6,))
        for thing in [(3, 4), (3, 4, 5), (4, 6), (0, 3, 4, 6), (3, 6), (4,), (3, 5, 6), ()]:
            self.gives(False, bar_holds, HALF_BARRED, 4, thing)
        for thing in [(4, 3, 6), (3, 4, 4, 6), [3, 4, 6], (3, 4, 6, 8), (-1, 3, 4, 6), (3, 4, "6")]:
            self.gives(False, bar_holds, HALF_BARRED, 4, thing)
        for thing in [(1,), (0,), (1, 0), (0, 1, 1), (0, 1, 2), [0, 1], (0, True), (False, 1)]:
            self.gives(False, bar_holds, EACH_OTHER, 0, thing)

    def test_any_object(self):
        for deed in (0, 1):
            for thing in any_objects():
                self.gives(False, bar_holds, EACH_OTHER, deed, thing)
                self.gives(False, bar_holds, EACH_OTHER, deed, (thing,))
                told = is_one_of((0, thing), [(0, 1)])
                self.gives(told, bar_holds, EACH_OTHER, deed, (0, thing))
        for thing in any_objects():
            self.gives(is_one_of(thing, [(0,)]), bar_holds, ONE, 0, thing)
            self.gives(False, bar_holds, B, 0, thing)

    def test_bad_deed(self):
        for thing in wrong_integers(0, 2):
            self.refuses(BadDeed, bar_of, B, thing)
            self.refuses(BadDeed, bar_holds, B, thing, None)
            self.refuses(BadDeed, bar_holds, NEVER, thing, (0,))
        self.refuses(BadDeed, bar_of, ONE, 1)
        self.refuses(BadDeed, bar_of, FREE, 8)


class FullRuns(Soon):
    def test_example(self):
        self.gives(B_RUNS, runs, B)
        self.gives(4, count_runs, B)
        self.gives((0, 1, 2), first_run, B)

    def test_no_deed_of_reach(self):
        for book in (ONE, EACH_OTHER, NO_LOTS):
            self.gives(1, count_runs, book)
            self.gives((), first_run, book)
            self.gives([()], runs, book)
            self.gives((), run_at, book, 0)
            self.gives(0, number_of, book, ())
            self.refuses(BadNumber, run_at, book, 1)

    def test_small_books(self):
        for book in some_books():
            told = told_full_runs(book)
            self.gives(len(told), count_runs, book)
            self.gives(told[0], first_run, book)
            self.gives(told, runs, book)
            for number, run in enumerate(told):
                self.gives(run, run_at, book, number)
                self.gives(number, number_of, book, run)

    def test_eight_deeds_one_behind_the_other(self):
        self.gives(1, count_runs, CHAIN)
        self.gives([tuple(range(8))], runs, CHAIN)

    def test_forty_lots(self):
        self.gives([(0,)], runs, FORTY)
        self.gives(40320, count_runs, FORTY_LAST)
        self.gives(40320 * 5 // 8, count_runs, THREE_OF_SEVEN)

    def test_just_five_hundred(self):
        for many, book in ((499, RUNS_499), (500, RUNS_500)):
            told = told_full_runs(book)
            self.assertEqual(len(told), many)
            self.gives(told, runs, book)
            self.gives(many, count_runs, book)
        self.gives(501, count_runs, RUNS_501)
        self.refuses(TooMany, runs, RUNS_501)
        self.gives(told_full_runs(RUNS_501)[500], run_at, RUNS_501, 500)

    def test_eight_deeds_all_at_once(self):
        self.gives(40320, count_runs, FREE)
        self.gives(tuple(range(8)), first_run, FREE)
        self.refuses(TooMany, runs, FREE)
        for number, run in enumerate(itertools.permutations(range(8))):
            if number % 61 == 0 or number > 40310:
                self.gives(run, run_at, FREE, number)
                self.gives(number, number_of, FREE, run)
        self.refuses(BadNumber, run_at, FREE, 40320)

    def test_first_and_last_number(self):
        for book in (B, FREE, CHAIN, RUNS_501, HALF_BARRED, THREE_OF_SEVEN):
            many = count_runs(book)
            self.assertEqual(run_at(book, 0), first_run(book))
            self.gives(0, number_of, book, first_run(book))
            self.gives(many - 1, number_of, book, run_at(book, many - 1))
            self.refuses(BadNumber, run_at, book, many)

    def test_bad_number(self):
        for thing in [-1, True, False, None, 4, 5, "0", (0,), [0], 10**29, *wrong_integers(0, 3)]:
            self.refuses(BadNumber, run_at, B, thing)

    def test_number_of_no_full_run(self):
        for thing in [(), (0,), (0, 1), (2, 0), *NO_RUNS_OF_B]:
            self.refuses(BadRun, number_of, B, thing)
        for thing in any_objects():
            self.refuses(BadRun, number_of, B, thing)
        self.refuses(BadRun, number_of, NEVER, ())
        self.refuses(BadRun, number_of, FREE, (0, 1, 2, 3, 4, 5, 6))
        self.gives(0, number_of, NEVER, (2,))

    def test_all_full_runs_do_the_same_deeds(self):
        for book in all_books(3)[::3]:
            for run in runs(book):
                self.assertEqual(tuple(sorted(run)), reach(book))
                self.assertEqual(told_may(book, run), [])


class RunsThrough(Soon):
    def test_example(self):
        counts = {(): 4, (0,): 2, (0, 1): 1, (0, 1, 2): 4, (0, 2): 2, (1, 2): 1, (2,): 2}
        for state, many in counts.items():
            self.gives(many, runs_through, B, state)

    def test_small_books(self):
        for book in some_books(4):
            told = told_full_runs(book)
            for state in told_states(book):
                through = [run for run in told if tuple(sorted(run[: len(state)])) == state]
                self.gives(len(through), runs_through, book, state)

    def test_eight_deeds(self):
        for state in states(FREE):
            size = len(state)
            many = math.factorial(size) * math.factorial(8 - size)
            self.gives(many, runs_through, FREE, state)
        for state in states(CHAIN):
            self.gives(1, runs_through, CHAIN, state)
        self.gives(1, runs_through, NO_LOTS, ())

    def test_bad_state(self):
        for thing in [(1,), (2, 0), (0, 0), (3,), [0], (True,), (0, True), (False,), None, ((0,),)]:
            self.refuses(BadState, runs_through, B, thing)
        for thing in any_objects():
            if not is_one_of(thing, [(), (0,)]):
                self.refuses(BadState, runs_through, B, thing)
        self.refuses(BadState, runs_through, EACH_OTHER, (0, 1))
        self.refuses(BadState, runs_through, NEVER, (0,))


class RunsAhead(Soon):
    def test_example(self):
        self.gives(3, runs_ahead, B, 0, 1)
        self.gives(1, runs_ahead, B, 1, 0)
        self.gives(2, runs_ahead, B, 0, 2)
        self.gives(2, runs_ahead, B, 2, 0)

    def test_small_books(self):
        for book in [*some_books(), RUNS_500]:
            told = told_full_runs(book)
            for deed, other in itertools.permutations(told_reach(book), 2):
                ahead = [run for run in told if run.index(deed) < run.index(other)]
                self.gives(len(ahead), runs_ahead, book, deed, other)

    def test_both_sequences_are_all(self):
        for book in (FREE, CHAIN, FORTY_LAST, THREE_OF_SEVEN, RUNS_501, HALF_BARRED):
            many = count_runs(book)
            for deed, other in itertools.combinations(reach(book), 2):
                both = runs_ahead(book, deed, other) + runs_ahead(book, other, deed)
                self.assertEqual(both, many)

    def test_bad_deed(self):
        for thing in wrong_integers(0, 2):
            self.refuses(BadDeed, runs_ahead, B, thing, 1)
            self.refuses(BadDeed, runs_ahead, B, 1, thing)
        for deed in range(3):
            self.refuses(BadDeed, runs_ahead, B, deed, deed)
        for deed in barred(HALF_BARRED):
            self.refuses(BadDeed, runs_ahead, HALF_BARRED, deed, 0)
            self.refuses(BadDeed, runs_ahead, HALF_BARRED, 0, deed)
        self.refuses(BadDeed, runs_ahead, FREE, 0, 8)
        self.refuses(BadDeed, runs_ahead, FREE, 8, 0)
        self.refuses(BadDeed, runs_ahead, ONE, 0, 0)
