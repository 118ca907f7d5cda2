"""Promises [13] and [14]: costs, days, weights."""

import random

from opendeeds.costs import best_state, late_deeds, least_late, least_sum, least_worst, met_by, worst_of
from opendeeds.errors import BadCosts, BadDays, BadRun, BadWeights
from samples import B, CHAIN, EACH_OTHER, FORTY, FORTY_LAST, FREE, HALF_BARRED, NEVER, NO_LOTS, ONE
from samples import RUNS_501
from samples import Soon, any_objects, is_one_of, some_books, told_full_runs, told_may, told_reach
from samples import told_runs, told_states, wrong_integers

COSTS = ((2, 1, 0), (9, 0, 0), (5, 5, 5))
FORWARD = tuple(range(8))


def random_costs(book, chance, spread):
    """Costs of a book, like ones and ones below 0 among them."""
    size = len(told_reach(book))
    rows = [[chance.randint(-spread, spread) for _ in range(size)] for _ in book]
    return tuple(tuple(sorted(row, reverse=True)) for row in rows)


def told_worst(costs, run):
    """The greatest of what the deeds of a run cost there, 0 for ()."""
    return max((costs[deed][index] for index, deed in enumerate(run)), default=0)


def told_cheapest_run(book, costs):
    """The run made so as the document words it."""
    run = ()
    while told_may(book, run):
        index = len(run)
        ahead = told_may(book, run)
        least = min(costs[deed][index] for deed in ahead)
        run = (*run, [deed for deed in ahead if costs[deed][index] == least][0])
    return run


class WorstOf(Soon):
    def test_example(self):
        for run, worst in (((0, 1, 2), 5), ((0, 2, 1), 5), ((2, 0, 1), 5), ((2, 1, 0), 5)):
            self.gives(worst, worst_of, B, COSTS, run)
        self.gives(9, worst_of, B, ((9, 8, 7), (6, 5, 4), (3, 2, 1)), (0, 1, 2))
        self.gives(7, worst_of, B, ((9, 8, 7), (6, 5, 4), (3, 2, 1)), (2, 1, 0))

    def test_costs_below_0(self):
        self.gives(-1, worst_of, B, ((-1, -2, -3),) * 3, (0, 1, 2))
        self.gives(-2, worst_of, B, ((-2, -2, -3), (-2, -3, -4), (0, 0, -5)), (0, 1, 2))

    def test_no_deeds_of_reach(self):
        self.gives(0, worst_of, ONE, ((),), ())
        self.gives(0, worst_of, NO_LOTS, ((),) * 8, ())
        self.gives(0, worst_of, EACH_OTHER, ((), ()), ())

    def test_small_books(self):
        chance = random.Random(1)
        for book in [*some_books(), HALF_BARRED]:
            for spread in (2, 10**29):
                costs = random_costs(book, chance, spread)
                for run in told_full_runs(book):
                    self.gives(told_worst(costs, run), worst_of, book, costs, run)

    def test_runs_that_are_not_full(self):
        for run in told_runs(B):
            if len(run) < 3:
                self.refuses(BadRun, worst_of, B, COSTS, run)
        self.refuses(BadRun, worst_of, NEVER, ((0,),) * 3, ())
        self.refuses(BadRun, worst_of, NEVER, ((0,),) * 3, (2, 0))

    def test_bad_run(self):
        for thing in [(1, 0, 2), (0, 1, 2, 0), (0, 1, 3), (0, True, 2), [0, 1, 2], *any_objects()]:
            self.refuses(BadRun, worst_of, B, COSTS, thing)


class LeastWorst(Soon):
    def test_example(self):
        self.gives((5, (0, 1, 2)), least_worst, B, COSTS)

    def test_of_several_the_least(self):
        self.gives((3, FORWARD), least_worst, FREE, ((3,) * 8,) * 8)
        self.gives((0, (0, 1, 2)), least_worst, B, ((0, 0, 0),) * 3)
        self.gives((1, (2, 1, 0)), least_worst, B, ((1, 1, 1), (1, 0, 0), (0, 0, 0)))

    def test_the_cheapest_as_the_next_one(self):
        falling = tuple(tuple(8 * deed - index for index in range(8)) for deed in range(8))
        self.gives((49, FORWARD), least_worst, FREE, falling)
        self.gives((49, FORWARD[::-1]), least_worst, FREE, falling[::-1])
        self.gives((0, (2, 0, 1)), least_worst, B, ((1, 0, 0), (9, 9, -1), (0, 0, 0)))

    def test_no_deeds_of_reach(self):
        self.gives((0, ()), least_worst, ONE, ((),))
        self.gives((0, ()), least_worst, NO_LOTS, ((),) * 8)
        self.gives((0, ()), least_worst, EACH_OTHER, ((), ()))

    def test_no_full_run_has_a_lesser_worst(self):
        chance = random.Random(2)
        for book in [*some_books(), HALF_BARRED, NEVER]:
            for spread in (1, 3, 50, 10**29):
                costs = random_costs(book, chance, spread)
                worst, run = least_worst(book, costs)
                self.gives((worst, run), least_worst, book, costs)
                self.assertEqual(run, told_cheapest_run(book, costs))
                self.assertEqual(worst, told_worst(costs, run))
                others = [told_worst(costs, other) for other in told_full_runs(book)]
                self.assertEqual(worst, min(others))

    def test_barred_deeds_cost_nothing(self):
        costs = tuple((deed in (3, 4, 5, 6),) * 4 for deed in range(8))
        costs = tuple(tuple(10**9 * int(part) for part in row) for row in costs)
        self.gives((0, (0, 1, 2, 7)), least_worst, HALF_BARRED, costs)
        self.gives((-5, (2,)), least_worst, NEVER, ((10**9,), (10**9,), (-5,)))

    def test_forty_lots(self):
        self.gives((4, (0,)), least_worst, FORTY, ((4,),) + ((9,),) * 7)
        costs = ((5,) * 8,) * 7 + ((9, 8, 7, 6, 5, 4, 3, 2),)
        self.gives((5, (0, 1, 2, 3, 4, 7, 5, 6)), least_worst, FORTY_LAST, costs)


class WrongCosts(Soon):
    def is_bad(self, book, thing):
        """Both functions raise BadCosts for what is no costs of the book."""
        self.refuses(BadCosts, least_worst, book, thing)
        self.refuses(BadCosts, worst_of, book, thing, None)
        self.refuses(BadCosts, worst_of, book, thing, told_full_runs(book)[0])

    def test_costs_that_grow(self):
        for row in [(0, 1, 1), (1, 0, 1), (0, 0, 1), (-2, -1, -1), (5, 4, 10**29)]:
            for costs in [(row, (0, 0, 0), (0, 0, 0)), ((0, 0, 0), (0, 0, 0), row)]:
                self.is_bad(B, costs)

    def test_for_more_or_fewer_than_reach_has(self):
        for size in (0, 1, 2, 4, 8):
            self.is_bad(B, ((0,) * size,) * 3)
            self.is_bad(B, ((0,) * 3, (0,) * 3, (0,) * size))
            self.is_bad(B, ((0,) * size, (0,) * 3, (0,) * 3))
        for size in (0, 3, 5, 8):
            self.is_bad(HALF_BARRED, ((0,) * size,) * 8)
        self.is_bad(ONE, ((0,),))
        self.is_bad(NEVER, ((), (), (0,)))
        self.is_bad(NEVER, ((0, 0, 0),) * 3)

    def test_for_more_or_fewer_deeds(self):
        for many in (0, 1, 2, 4, 8):
            self.is_bad(B, ((0, 0, 0),) * many)
        self.is_bad(HALF_BARRED, ((0, 0, 0, 0),) * 4)
        self.is_bad(ONE, ())
        self.is_bad(ONE, ((), ()))

    def test_barred_deeds_have_costs_too(self):
        for row in [(), (0,), (0, 0, 0), (0, 1, 1, 1), (True, 0, 0, 0), [0, 0, 0, 0], None]:
            self.is_bad(HALF_BARRED, ((0, 0, 0, 0),) * 6 + (row,) + ((0, 0, 0, 0),))

    def test_other_kinds(self):
        self.is_bad(B, list(COSTS))
        self.is_bad(B, ([2, 1, 0], *COSTS[1:]))
        self.is_bad(B, (*COSTS[:2], [5, 5, 5]))
        self.is_bad(B, (2, 1, 0))
        self.is_bad(ONE, ([],))
        self.is_bad(ONE, [()])
        self.is_bad(B, ((1, True, 0), *COSTS[1:]))
        self.is_bad(B, ((1, 0, False), *COSTS[1:]))
        for thing in any_objects():
            self.is_bad(B, thing)
            if not (type(thing) is int):
                self.is_bad(B, ((2, 1, thing), *COSTS[1:]))
                self.is_bad(B, (*COSTS[:2], (thing, 5, 5)))
            self.is_bad(B, (COSTS[0], thing, COSTS[2]))
            self.is_bad(B, (*COSTS, thing))


def told_late(days, run):
    """The deeds that are done later than their days, counted from 1."""
    return tuple(sorted(deed for deed in run if run.index(deed) + 1 > days[deed]))


def all_days(book, chance):
    """Some days of a book, hard and easy to keep."""
    found = [(1,) * len(book), (8,) * len(book), (len(book),) * len(book)]
    for most in (2, 4, 8):
        found.append(tuple(chance.randint(1, most) for _ in book))
    return found


class Days(Soon):
    def test_examples(self):
        self.gives((2, 1, 0), met_by, B, (3, 2, 1))
        self.gives((0, 1, 2), met_by, B, (1, 2, 3))
        self.gives(None, met_by, B, (3, 1, 3))
        self.gives(None, met_by, B, (1, 3, 1))
        self.gives((1,), late_deeds, B, (3, 1, 3), (0, 1, 2))
        self.gives((), late_deeds, B, (3, 2, 1), (2, 1, 0))
        self.gives((0,), late_deeds, B, (1, 3, 1), (2, 0, 1))
        self.gives(1, least_late, B, (3, 1, 3))
        self.gives(0, least_late, B, (3, 2, 1))
        self.gives(2, least_late, B, (1, 1, 1))

    def test_late_deeds_ascend(self):
        self.gives((0, 1), late_deeds, B, (1, 1, 1), (2, 1, 0))
        self.gives(tuple(range(7)), late_deeds, FREE, (1,) * 8, FORWARD[::-1])
        self.gives(tuple(range(1, 8)), late_deeds, FREE, (1,) * 8, FORWARD)

    def test_small_books(self):
        chance = random.Random(3)
        for book in [*some_books(), HALF_BARRED]:
            told = told_full_runs(book)
            for days in all_days(book, chance):
                late = [told_late(days, run) for run in told]
                for run, deeds in zip(told, late):
                    self.gives(deeds, late_deeds, book, days, run)
                least = min(len(deeds) for deeds in late)
                self.gives(least, least_late, book, days)
                found = met_by(book, days)
                if least:
                    self.assertIsNone(found)
                else:
                    self.assertTrue(is_one_of(found, told))
                    self.assertEqual(told_late(days, found), ())

    def test_barred_deeds_are_never_late(self):
        self.gives((2,), met_by, NEVER, (1, 1, 1))
        self.gives((), late_deeds, NEVER, (1, 1, 1), (2,))
        self.gives(0, least_late, NEVER, (1, 1, 1))
        self.gives((), met_by, EACH_OTHER, (1, 1))
        self.gives((), late_deeds, NO_LOTS, (1,) * 8, ())
        self.gives(0, least_late, ONE, (1,))

    def test_eight_deeds(self):
        self.gives(FORWARD, met_by, FREE, tuple(range(1, 9)))
        self.gives(FORWARD[::-1], met_by, FREE, tuple(range(8, 0, -1)))
        self.gives(None, met_by, FREE, (2, 2, 2, 8, 8, 8, 8, 8))
        self.gives(1, least_late, FREE, (2, 2, 2, 8, 8, 8, 8, 8))
        self.gives(6, least_late, FREE, (2,) * 8)
        self.gives(FORWARD, met_by, CHAIN, tuple(range(1, 9)))
        self.gives(None, met_by, CHAIN, (1, 2, 3, 4, 5, 6, 7, 7))
        self.gives(7, least_late, CHAIN, (1,) * 8)
        found = met_by(RUNS_501, (8,) * 8)
        self.gives((), late_deeds, RUNS_501, (8,) * 8, found)

    def test_days_from_1_to_8_for_any_book(self):
        for day in range(1, 9):
            self.gives((0,), met_by, (((),),), (day,))
            self.gives((), met_by, ONE, (day,))

    def test_bad_days(self):
        near = [(1, 2), (1, 2, 3, 4), (), (0, 1, 2), (1, 2, 9), (1, -1, 2), (1, 2, 10**29), [1, 2, 3]]
        near += [(1, 2, True), (True, 2, 3), (1, 2, "3"), (1, 2, None), (1, (2,), 3), ((1, 2, 3),)]
        for thing in [*near, *any_objects()]:
            self.refuses(BadDays, met_by, B, thing)
            self.refuses(BadDays, least_late, B, thing)
            self.refuses(BadDays, late_deeds, B, thing, (0, 1, 2))
            self.refuses(BadDays, late_deeds, B, thing, None)
        for thing in wrong_integers(1, 8):
            for function in (met_by, least_late):
                self.refuses(BadDays, function, B, (1, 1, thing))
                self.refuses(BadDays, function, NEVER, (thing, 1, 1))
                self.refuses(BadDays, function, ONE, (thing,))
            self.refuses(BadDays, late_deeds, NEVER, (thing, 1, 1), (2,))

    def test_bad_run(self):
        for thing in [(), (0,), (0, 1), (1, 0, 2), [0, 1, 2], (0, True, 2), *any_objects()]:
            self.refuses(BadRun, late_deeds, B, (1, 2, 3), thing)


def all_weights(book, chance):
    """Some weights of a book, like ones, ones below 0 and large ones."""
    found = [(0,) * len(book), (1,) * len(book), (-1,) * len(book)]
    for spread in (1, 2, 9, 10**29):
        found.append(tuple(chance.randint(-spread, spread) for _ in book))
    return found


class LeastSum(Soon):
    def test_examples(self):
        self.gives((0, (0, 1, 2)), least_sum, B, (0, 0, 0))
        self.gives((3, (0, 1, 2)), least_sum, B, (1, 1, 1))
        self.gives((1, (0, 2, 1)), least_sum, B, (4, 0, 1))
        self.gives((-4, (2, 0, 1)), least_sum, B, (0, -2, 5))

    def test_the_first_run_that_has_it(self):
        self.gives((28, FORWARD), least_sum, FREE, (1,) * 8)
        self.gives((-28, FORWARD), least_sum, FREE, (-1,) * 8)
        self.gives((0, FORWARD), least_sum, FREE, (0,) * 8)
        self.gives((3, (2, 0, 1)), least_sum, B, (1, 1, 4))

    def test_small_books(self):
        chance = random.Random(4)
        for book in [*some_books(), HALF_BARRED]:
            told = told_full_runs(book)
            for weights in all_weights(book, chance):
                sums = [sum(weights[deed] * run.index(deed) for deed in run) for run in told]
                least = min(sums)
                self.gives((least, told[sums.index(least)]), least_sum, book, weights)

    def test_no_deeds_of_reach(self):
        self.gives((0, ()), least_sum, ONE, (-7,))
        self.gives((0, ()), least_sum, EACH_OTHER, (5, -5))
        self.gives((0, ()), least_sum, NO_LOTS, (9,) * 8)
        self.gives((0, (2,)), least_sum, NEVER, (-9, -9, -9))

    def test_eight_deeds(self):
        weights = tuple(range(8))
        self.gives((56, FORWARD[::-1]), least_sum, FREE, weights)
        self.gives((140, FORWARD), least_sum, CHAIN, weights)
        large = tuple(-(10**29) + deed for deed in range(8))
        self.gives((56 - 28 * 10**29, FORWARD[::-1]), least_sum, FREE, large)


class BestState(Soon):
    def test_examples(self):
        self.gives((0, ()), best_state, B, (0, 0, 0))
        self.gives((3, (0, 1, 2)), best_state, B, (1, 1, 1))
        self.gives((0, ()), best_state, B, (-1, -1, -1))
        self.gives((4, (1, 2)), best_state, B, (-2, 5, -1))
        self.gives((0, ()), best_state, B, (-2, 1, -1))

    def test_the_first_state_that_has_it(self):
        self.gives((1, (0,)), best_state, B, (1, 0, 0))
        self.gives((1, (0, 1)), best_state, B, (0, 1, 0))
        self.gives((4, (0, 1)), best_state, B, (-1, 5, -1))
        self.gives((1, (1, 2)), best_state, B, (-1, 0, 1))

    def test_small_books(self):
        chance = random.Random(5)
        for book in [*some_books(), HALF_BARRED]:
            told = told_states(book)
            for weights in all_weights(book, chance):
                sums = [sum(weights[deed] for deed in state) for state in told]
                most = max(sums)
                self.gives((most, told[sums.index(most)]), best_state, book, weights)

    def test_edges(self):
        self.gives((0, ()), best_state, ONE, (7,))
        self.gives((0, ()), best_state, EACH_OTHER, (5, 5))
        self.gives((0, ()), best_state, NEVER, (5, 5, -1))
        self.gives((1, (2,)), best_state, NEVER, (5, 5, 1))
        self.gives((8 * 10**29, FORWARD), best_state, FREE, (10**29,) * 8)
        self.gives((16, (1, 3, 5, 7)), best_state, FREE, (-1, 1, -1, 3, -1, 5, -1, 7))
        self.gives((1, FORWARD), best_state, CHAIN, (-1, 0, 0, 0, 0, 0, 0, 2))
        self.gives((0, ()), best_state, CHAIN, (-1, 0, 0, 0, 0, 0, 0, 1))


class WrongWeights(Soon):
    def test_bad_weights(self):
        near = [(0, 0), (0, 0, 0, 0), (), [0, 0, 0], (0, 0, True), (False, 0, 0), (0, "0", 0), ((0,),) * 3]
        for function in (least_sum, best_state):
            for thing in [*near, *any_objects()]:
                self.refuses(BadWeights, function, B, thing)
            for thing in any_objects():
                if type(thing) is not int:
                    self.refuses(BadWeights, function, B, (0, 0, thing))
                    self.refuses(BadWeights, function, NEVER, (thing, 0, 0))
                    self.refuses(BadWeights, function, ONE, (thing,))
