"""Promise [8]: exchanging neighbours in full runs, and going on from state to state."""

import itertools

from opendeeds.books import states
from opendeeds.errors import BadRun, BadState, TooMany
from opendeeds.runs import count_runs, first_run, runs
from opendeeds.swaps import goes_on, least_swaps, swaps_between, swaps_hold, swaps_of
from samples import B, CHAIN, EACH_OTHER, FREE, HALF_BARRED, NEVER, NO_LOTS, ONE
from samples import RUNS_499, RUNS_500, RUNS_501
from samples import Soon, any_objects, is_one_of, some_books, told_full_runs, told_may, told_states

FORWARD = tuple(range(8))
BACKWARD = tuple(reversed(range(8)))


def exchanged(run, index):
    """The run with the deeds at the index and next behind exchanged."""
    return (*run[:index], run[index + 1], run[index], *run[index + 2 :])


def told_swaps_of(full_runs, run):
    """The indexes at which exchanging neighbours gives one of the full runs."""
    return [index for index in range(len(run) - 1) if exchanged(run, index) in full_runs]


def told_leads(full_runs, run, other, swaps):
    """Whether the swaps lead from one full run to the other, each giving a full run."""
    for index in swaps:
        if index not in told_swaps_of(full_runs, run):
            return False
        run = exchanged(run, index)
    return run == other


def unlike_pairs(run, other):
    """How many pairs of deeds the two runs have in unlike sequence."""
    return len(
        [
            (deed, later)
            for deed, later in itertools.combinations(run, 2)
            if other.index(deed) > other.index(later)
        ]
    )


class SwapsOf(Soon):
    def test_example(self):
        self.gives([1], swaps_of, B, (0, 1, 2))
        self.gives([0, 1], swaps_of, B, (0, 2, 1))
        self.gives([0, 1], swaps_of, B, (2, 0, 1))
        self.gives([1], swaps_of, B, (2, 1, 0))

    def test_edges(self):
        self.gives([0, 1, 2, 3, 4, 5, 6], swaps_of, FREE, FORWARD)
        self.gives([], swaps_of, CHAIN, FORWARD)
        self.gives([], swaps_of, NO_LOTS, ())
        self.gives([], swaps_of, NEVER, (2,))

    def test_small_books(self):
        for book in [*some_books(), HALF_BARRED]:
            told = told_full_runs(book)
            for run in told:
                self.gives(told_swaps_of(told, run), swaps_of, book, run)


class SwapsBetween(Soon):
    def leads(self, book, full_runs, run, other):
        """swaps_between leads from run to other, and swaps_hold says so."""
        found = swaps_between(book, run, other)
        self.assertIs(type(found), list)
        self.assertEqual({type(index) for index in found} - {int}, set())
        self.assertTrue(told_leads(full_runs, run, other, found))
        self.gives(True, swaps_hold, book, run, other, found)
        self.assertGreaterEqual(len(found), least_swaps(book, run, other))
        return found

    def test_small_books(self):
        for book in [*some_books(4), HALF_BARRED]:
            told = told_full_runs(book)
            for run, other in itertools.product(told, repeat=2):
                self.leads(book, told, run, other)

    def test_some_runs_of_greater_books(self):
        for book in (RUNS_499, RUNS_500):
            told = runs(book)
            for run, other in itertools.product(told[::29], told[::31]):
                self.leads(book, told, run, other)

    def test_from_a_run_to_itself(self):
        for book in (B, CHAIN, NO_LOTS, ONE, NEVER, RUNS_500):
            run = runs(book)[0]
            self.gives(True, swaps_hold, book, run, run, swaps_between(book, run, run))
            self.gives(True, swaps_hold, book, run, run, [])

    def test_more_than_five_hundred_full_runs(self):
        found = swaps_between(FREE, FORWARD, BACKWARD)
        self.gives(True, swaps_hold, FREE, FORWARD, BACKWARD, found)
        self.assertGreaterEqual(len(found), 28)


class SwapsHold(Soon):
    def test_example(self):
        self.gives(True, swaps_hold, B, (0, 1, 2), (2, 1, 0), [1, 0, 1])

    def test_detours(self):
        self.gives(True, swaps_hold, B, (0, 1, 2), (2, 1, 0), [1, 1, 1, 0, 0, 0, 1])
        self.gives(True, swaps_hold, B, (0, 1, 2), (0, 1, 2), [1, 1])
        self.gives(True, swaps_hold, FREE, FORWARD, FORWARD, [3, 3] * 5000)

    def test_near_lists(self):
        near = [
            [],
            [1],
            [1, 0],
            [0, 1],
            [1, 0, 1, 1],
            [1, 0, 1, 0],
            [1, 1, 0, 1],
            [1, 0, 0, 1],
            [0, 1, 0],
            [1, 0, 2],
            [1, 0, -2],
            [1, 0, -1],
            [-1, 0, 1],
            [1, 0, 10**29],
            [True, 0, 1],
            [1, False, 1],
            [1, 0, True],
            [1, 0, "1"],
            [1, 0, None],
            [1, 0, (1,)],
            [1, 0, [1]],
            [[1, 0, 1]],
            [1, 0, 1, None],
            (1, 0, 1),
            ((1, 0, 1),),
            "101",
            b"\x01\x00\x01",
            {1: 0},
            range(1),
        ]
        for thing in near:
            self.gives(False, swaps_hold, B, (0, 1, 2), (2, 1, 0), thing)

    def test_a_detour_by_what_is_no_run(self):
        self.gives(False, swaps_hold, B, (0, 1, 2), (0, 1, 2), [0, 0])
        self.gives(False, swaps_hold, CHAIN, FORWARD, FORWARD, [3, 3])

    def test_all_short_lists_for_small_books(self):
        for book in some_books(4)[::5]:
            told = told_full_runs(book)
            for run, other in itertools.product(told[:3], repeat=2):
                for size in range(4):
                    for thing in itertools.product(range(-1, len(run)), repeat=size):
                        holds = told_leads(told, run, other, thing)
                        self.gives(holds, swaps_hold, book, run, other, list(thing))
                        self.gives(False, swaps_hold, book, run, other, thing)

    def test_any_object(self):
        for thing in any_objects():
            holds = type(thing) is list and not thing
            self.gives(holds, swaps_hold, B, (0, 1, 2), (0, 1, 2), thing)
            self.gives(False, swaps_hold, B, (0, 1, 2), (2, 1, 0), thing)
            self.gives(False, swaps_hold, B, (0, 1, 2), (0, 1, 2), [1, 1, thing])
            holds = type(thing) is int and thing == 1
            self.gives(holds, swaps_hold, B, (0, 1, 2), (2, 1, 0), [1, 0, thing])
            self.gives(is_one_of(thing, [[]]), swaps_hold, ONE, (), (), thing)


class LeastSwaps(Soon):
    def test_example(self):
        self.gives(3, least_swaps, B, (0, 1, 2), (2, 1, 0))
        self.gives(1, least_swaps, B, (0, 1, 2), (0, 2, 1))
        self.gives(0, least_swaps, B, (2, 1, 0), (2, 1, 0))

    def test_the_pairs_in_unlike_sequence(self):
        for book in [*some_books(4), HALF_BARRED]:
            for run, other in itertools.product(told_full_runs(book), repeat=2):
                self.gives(unlike_pairs(run, other), least_swaps, book, run, other)

    def test_no_fewer_swaps_do(self):
        for book in some_books(4)[::3]:
            told = told_full_runs(book)
            for start in told[:4]:
                steps = {start: 0}
                waiting = [start]
                for run in waiting:
                    for index in told_swaps_of(told, run):
                        after = exchanged(run, index)
                        if after not in steps:
                            steps[after] = steps[run] + 1
                            waiting.append(after)
                self.assertEqual(len(steps), len(told))
                for other, many in steps.items():
                    self.gives(many, least_swaps, book, start, other)

    def test_more_than_five_hundred_full_runs(self):
        for book in (RUNS_499, RUNS_500):
            run, other = runs(book)[0], runs(book)[-1]
            self.gives(unlike_pairs(run, other), least_swaps, book, run, other)
        self.assertEqual(count_runs(RUNS_501), 501)
        run = first_run(RUNS_501)
        self.refuses(TooMany, least_swaps, RUNS_501, run, run)
        self.refuses(TooMany, least_swaps, FREE, FORWARD, BACKWARD)

    def test_too_many_comes_behind_bad_runs(self):
        self.refuses(BadRun, least_swaps, FREE, (0,), FORWARD)
        self.refuses(BadRun, least_swaps, FREE, FORWARD, (0,))
        self.refuses(BadRun, least_swaps, FREE, FORWARD, None)


class BadRuns(Soon):
    WRONG = [
        (),
        (0,),
        (0, 1),
        (1, 0, 2),
        (0, 0, 1),
        (0, 1, 2, 0),
        (0, 1, 3),
        (0, True, 2),
        (False, 1, 2),
        [0, 1, 2],
        ((0, 1, 2),),
        ("0", "1", "2"),
    ]

    def test_at_each_run(self):
        right = (0, 1, 2)
        for thing in [*self.WRONG, *any_objects()]:
            self.refuses(BadRun, swaps_of, B, thing)
            for function in (swaps_between, least_swaps):
                self.refuses(BadRun, function, B, thing, right)
                self.refuses(BadRun, function, B, right, thing)
            self.refuses(BadRun, swaps_hold, B, thing, right, [])
            self.refuses(BadRun, swaps_hold, B, right, thing, [])


class GoesOn(Soon):
    def test_example(self):
        self.gives(0, goes_on, B, (), (0, 1, 2))
        self.gives(1, goes_on, B, (0,), (0, 1, 2))
        self.gives(2, goes_on, B, (), (1, 2))
        self.gives(1, goes_on, B, (2,), (1, 2))
        self.gives(None, goes_on, B, (1, 2), (2,))
        self.gives(None, goes_on, B, (1, 2), ())
        self.gives(0, goes_on, B, (2,), (0, 1))
        self.gives(None, goes_on, ONE, (), ())

    def test_all_pairs_of_states(self):
        for book in [*some_books(4), HALF_BARRED]:
            for state, other in itertools.product(told_states(book), repeat=2):
                more = sorted(set(other) - set(state))
                told = [deed for deed in more if deed in told_may(book, state)]
                self.assertEqual(bool(told), bool(more))
                self.gives(told[0] if told else None, goes_on, book, state, other)

    def test_eight_deeds(self):
        for size in range(8):
            self.gives(size, goes_on, CHAIN, tuple(range(size)), FORWARD)
        for state in states(FREE)[::5]:
            left = [deed for deed in range(8) if deed not in state]
            self.gives(left[0] if left else None, goes_on, FREE, state, FORWARD)

    def test_bad_state(self):
        for thing in [(1,), (1, 0), (0, 0), (3,), [], [0], (True,), (0, True), None, 0, "", ((),)]:
            self.refuses(BadState, goes_on, B, thing, (0,))
            self.refuses(BadState, goes_on, B, (0,), thing)
        for thing in any_objects():
            if not is_one_of(thing, [(), (0,)]):
                self.refuses(BadState, goes_on, B, thing, (0,))
                self.refuses(BadState, goes_on, B, (0,), thing)
        self.refuses(BadState, goes_on, EACH_OTHER, (0, 1), ())
        self.refuses(BadState, goes_on, EACH_OTHER, (), (0, 1))
