"""Promises [2] and [3] over all functions: how they are called, what they return, errors in order."""

import copy
import itertools

from opendeeds.books import is_book, is_state, may, state_counts, states
from opendeeds.chance import ahead_chance, mean_place, run_chance, state_chances
from opendeeds.costs import best_state, late_deeds, least_late, least_sum, least_worst, met_by, worst_of
from opendeeds.desk import Desk
from opendeeds.errors import BadBook, BadCommand, BadCosts, BadDays, BadDeed, BadDone, BadFamily, BadLot
from opendeeds.errors import BadNumber, BadPairs, BadPoints, BadReach, BadRefused, BadRows, BadRun, BadRuns
from opendeeds.errors import BadSeen, BadSet, BadShut, BadSizes, BadState, BadTree, BadWeights
from opendeeds.errors import DeedError, NotOrder, TooMany
from opendeeds.least import are_alike, book_of, family_fault, least_book, spare_lots, unlike_state, ways
from opendeeds.orders import is_order, joined, most_ways, of_runs, order_book, order_pairs
from opendeeds.orders import runs_for, runs_make
from opendeeds.parts import behind, beside, done_first, in_place, kept_alone
from opendeeds.places import outer_book, outer_points, reach_book, row_book, tree_book
from opendeeds.runs import bar_holds, bar_of, barred, count_runs, first_run, is_run, number_of
from opendeeds.runs import reach, run_at, runs, runs_ahead, runs_through
from opendeeds.seen import can_refuse, least_seen, sure_next
from opendeeds.session import Session
from opendeeds.shutting import bare_sets, brings, closure, corners, is_shut, left_by, needs, shut_sets
from opendeeds.swaps import goes_on, least_swaps, swaps_between, swaps_hold, swaps_of
from opendeeds.texts import read_book, write_book
from samples import B, FREE, NEVER, ONE, RUNS_501
from samples import Soon, any_objects, same, some_books, told_full_runs, told_runs, told_states
from samples import wrong_books

SPARE = (((),), ((0,), (0, 2), (2,)), ((),))
B_STATES = [(), (0,), (0, 1), (0, 1, 2), (0, 2), (1, 2), (2,)]
COSTS = ((2, 1, 0), (9, 0, 0), (5, 5, 5))
FREE_TWO = (((),), ((),))
IN_SEQUENCE = (((),), ((0,),))

# A function, its parameters with good arguments, what it returns for them, and for each parameter
# but one for any object the error that tells of it.
CASES = [
    (is_book, {"thing": B}, True, []),
    (may, {"book": B, "done": (0,)}, [1, 2], [BadBook, BadDone]),
    (is_state, {"book": B, "thing": (0, 1)}, True, [BadBook]),
    (states, {"book": B}, B_STATES, [BadBook]),
    (state_counts, {"book": B}, [1, 2, 3, 1], [BadBook]),
    (write_book, {"book": B}, "0: -\n1: 0 / 2\n2: -", [BadBook]),
    (read_book, {"text": "0: -\n1: 0 / 2\n2: -"}, B, [BadRows]),
    (is_run, {"book": B, "thing": (2, 1)}, True, [BadBook]),
    (reach, {"book": NEVER}, (2,), [BadBook]),
    (barred, {"book": NEVER}, (0, 1), [BadBook]),
    (bar_of, {"book": B, "deed": 1}, None, [BadBook, BadDeed]),
    (bar_of, {"book": ((),), "deed": 0}, (0,), [BadBook, BadDeed]),
    (bar_holds, {"book": NEVER, "deed": 1, "thing": (0, 1)}, True, [BadBook, BadDeed]),
    (count_runs, {"book": B}, 4, [BadBook]),
    (first_run, {"book": B}, (0, 1, 2), [BadBook]),
    (runs, {"book": B}, [(0, 1, 2), (0, 2, 1), (2, 0, 1), (2, 1, 0)], [BadBook]),
    (run_at, {"book": B, "number": 2}, (2, 0, 1), [BadBook, BadNumber]),
    (number_of, {"book": B, "run": (2, 0, 1)}, 2, [BadBook, BadRun]),
    (runs_through, {"book": B, "state": (0,)}, 2, [BadBook, BadState]),
    (runs_ahead, {"book": B, "deed": 0, "other": 1}, 3, [BadBook, BadDeed, BadDeed]),
    (swaps_of, {"book": B, "run": (0, 2, 1)}, [0, 1], [BadBook, BadRun]),
    (
        swaps_between,
        {"book": B, "run": (0, 1, 2), "other": (0, 2, 1)},
        [1],
        [BadBook, BadRun, BadRun],
    ),
    (
        swaps_hold,
        {"book": B, "run": (0, 1, 2), "other": (2, 1, 0), "thing": [1, 0, 1]},
        True,
        [BadBook, BadRun, BadRun],
    ),
    (
        least_swaps,
        {"book": B, "run": (0, 1, 2), "other": (2, 1, 0)},
        3,
        [BadBook, BadRun, BadRun],
    ),
    (goes_on, {"book": B, "state": (0,), "other": (1, 2)}, 1, [BadBook, BadState, BadState]),
    (is_shut, {"book": B, "thing": (1, 2)}, True, [BadBook]),
    (shut_sets, {"book": NEVER}, [(), (2,)], [BadBook]),
    (left_by, {"book": B, "deeds": (1,)}, (0, 2), [BadBook, BadSet]),
    (closure, {"book": B, "deeds": (0, 2)}, (0, 1, 2), [BadBook, BadSet]),
    (brings, {"book": B, "deeds": (0, 2), "deed": 1}, True, [BadBook, BadSet, BadDeed]),
    (corners, {"book": B, "shut": (0, 1, 2)}, (0, 2), [BadBook, BadShut]),
    (bare_sets, {"book": NEVER}, [(), (2,)], [BadBook]),
    (needs, {"book": B, "deeds": (0, 1, 2), "deed": 1}, [(0, 2), (1,)], [BadBook, BadSet, BadDeed]),
    (ways, {"book": B, "deed": 1}, [(0, 1), (1, 2)], [BadBook, BadDeed]),
    (least_book, {"book": SPARE}, B, [BadBook]),
    (are_alike, {"book": B, "other": SPARE}, True, [BadBook, BadBook]),
    (unlike_state, {"book": B, "other": NEVER}, (0,), [BadBook, BadBook]),
    (spare_lots, {"book": SPARE}, [(1, (0, 2))], [BadBook]),
    (book_of, {"count": 3, "family": B_STATES}, B, [BadNumber, BadFamily]),
    (family_fault, {"count": 3, "family": [(), (0,), (1,)]}, ("union", (0,), (1,)), [BadNumber, BadFamily]),
    (worst_of, {"book": B, "costs": COSTS, "run": (0, 1, 2)}, 5, [BadBook, BadCosts, BadRun]),
    (least_worst, {"book": B, "costs": COSTS}, (5, (0, 1, 2)), [BadBook, BadCosts]),
    (met_by, {"book": B, "days": (3, 2, 1)}, (2, 1, 0), [BadBook, BadDays]),
    (late_deeds, {"book": B, "days": (3, 1, 1), "run": (0, 1, 2)}, (1, 2), [BadBook, BadDays, BadRun]),
    (least_late, {"book": B, "days": (3, 1, 3)}, 1, [BadBook, BadDays]),
    (least_sum, {"book": B, "weights": (4, 0, 1)}, (1, (0, 2, 1)), [BadBook, BadWeights]),
    (best_state, {"book": B, "weights": (-2, 5, -1)}, (4, (1, 2)), [BadBook, BadWeights]),
    (order_book, {"count": 2, "pairs": ((0, 1),)}, IN_SEQUENCE, [BadNumber, BadPairs]),
    (is_order, {"book": B}, False, [BadBook]),
    (order_pairs, {"book": IN_SEQUENCE}, [(0, 1)], [BadBook]),
    (of_runs, {"count": 3, "runs": ((0, 1, 2), (2, 1, 0))}, B, [BadNumber, BadRuns]),
    (joined, {"book": IN_SEQUENCE, "other": (((1,),), ((),))}, FREE_TWO, [BadBook, BadBook]),
    (most_ways, {"book": B}, (2, ((0,), (1, 2))), [BadBook]),
    (runs_for, {"book": IN_SEQUENCE}, ((0, 1),), [BadBook]),
    (runs_make, {"book": B, "thing": ((0, 1, 2), (2, 1, 0))}, True, [BadBook]),
    (done_first, {"book": B, "state": (0, 2)}, ((((),),), (1,)), [BadBook, BadState]),
    (kept_alone, {"book": B, "deeds": (0, 1)}, IN_SEQUENCE, [BadBook, BadSet]),
    (beside, {"book": IN_SEQUENCE, "other": ONE}, (((),), ((0,),), ()), [BadBook, BadBook]),
    (behind, {"book": FREE_TWO, "other": (((),),)}, (((),), ((),), ((0, 1),)), [BadBook, BadBook]),
    (
        in_place,
        {"book": IN_SEQUENCE, "deed": 0, "other": FREE_TWO},
        (((1, 2),), ((),), ((),)),
        [BadBook, BadDeed, BadBook],
    ),
    (row_book, {"count": 3}, B, [BadNumber]),
    (tree_book, {"count": 3, "pairs": ((0, 1), (1, 2))}, B, [BadNumber, BadTree]),
    (reach_book, {"count": 2, "pairs": ((1, 0),), "place": 0}, IN_SEQUENCE, [BadNumber, BadPairs, BadDeed]),
    (outer_book, {"points": ((0, 0), (1, 1), (2, 2))}, B, [BadPoints]),
    (outer_points, {"points": ((0, 0), (1, 1), (2, 2)), "left": (0, 1)}, [0, 1], [BadPoints, BadSet]),
    (run_chance, {"book": B, "run": (0, 1)}, (1, 4), [BadBook, BadRun]),
    (
        state_chances,
        {"book": B, "count": 1},
        [((0,), (1, 2)), ((2,), (1, 2))],
        [BadBook, BadNumber],
    ),
    (ahead_chance, {"book": B, "deed": 0, "other": 1}, (3, 4), [BadBook, BadDeed, BadDeed]),
    (mean_place, {"book": B, "deed": 1}, (3, 2), [BadBook, BadDeed]),
    (least_seen, {"count": 3, "seen": ((0, 1), (2, 1))}, B, [BadNumber, BadSeen]),
    (
        can_refuse,
        {"count": 3, "seen": ((0, 1), (2,)), "refused": (((2,), 1),)},
        True,
        [BadNumber, BadSeen, BadRefused],
    ),
    (
        sure_next,
        {"count": 3, "seen": ((0, 1), (2, 1)), "done": (0,)},
        [1, 2],
        [BadNumber, BadSeen, BadDone],
    ),
]

# What is none of the things that any parameter takes.
WRONG = [None, -1, True, "0", (0, 0), [None], (((),), (0,)), {}]


class Calls(Soon):
    def test_by_position(self):
        for function, told, result, _ in CASES:
            self.gives(result, function, *told.values())

    def test_by_name_in_any_sequence(self):
        for function, told, result, _ in CASES:
            for names in itertools.permutations(told):
                found = function(**{name: told[name] for name in names})
                self.assertTrue(same(found, result), (function.__name__, names))

    def test_by_position_and_then_by_name(self):
        for function, told, result, _ in CASES:
            first, *rest = told
            found = function(told[first], **{name: told[name] for name in rest})
            self.assertTrue(same(found, result), function.__name__)

    def test_arguments_stay_as_they_were(self):
        for function, told, _, _ in CASES:
            before = copy.deepcopy(told)
            function(*told.values())
            self.assertTrue(same(list(told.values()), list(before.values())), function.__name__)

    def test_lists_that_are_handed_in_are_not_kept(self):
        family = list(B_STATES)
        found = book_of(3, family)
        family.clear()
        self.assertEqual(found, B)
        steps = [1, 0, 1]
        self.assertTrue(swaps_hold(B, (0, 1, 2), (2, 1, 0), steps))
        steps.append(1)
        self.assertFalse(swaps_hold(B, (0, 1, 2), (2, 1, 0), steps))
        self.assertEqual(steps, [1, 0, 1, 1])

    def test_lists_that_are_returned_are_new(self):
        for function, told, result, _ in CASES:
            if type(result) is list:
                found = function(*told.values())
                again = function(*told.values())
                self.assertIsNot(found, again)
                found.clear()
                self.gives(result, function, *told.values())
                self.assertTrue(same(again, result))

    def test_equal_calls_return_equal_results(self):
        for function, told, result, _ in CASES:
            for _ in range(2):
                self.gives(result, function, *copy.deepcopy(list(told.values())))


class Errors(Soon):
    def test_a_wrong_book_ahead_of_all(self):
        for function, told, _, named in CASES:
            if BadBook in named[:1]:
                for thing in wrong_books():
                    self.refuses(BadBook, function, thing, *list(told.values())[1:])
                    self.refuses(BadBook, function, thing, *[None] * (len(told) - 1))

    def test_a_wrong_book_in_second_place(self):
        for function in (are_alike, unlike_state, joined, beside, behind):
            for thing in wrong_books():
                self.refuses(BadBook, function, B, thing)

    def test_the_first_wrong_argument(self):
        for function, told, _, named in CASES:
            right = list(told.values())
            for at, error in enumerate(named):
                for thing in WRONG:
                    self.refuses(error, function, *right[:at], thing, *right[at + 1 :])
                    for other in WRONG:
                        behind = [other] * (len(right) - at - 1)
                        self.refuses(error, function, *right[:at], thing, *behind)

    def test_any_object_in_each_place(self):
        for function, told, _, named in CASES:
            right = list(told.values())
            for at in range(len(right)):
                for thing in any_objects():
                    try:
                        function(*right[:at], thing, *right[at + 1 :])
                    except DeedError as error:
                        self.assertIn(type(error), [*named[at:], BadSizes, BadReach, NotOrder, TooMany])

    def test_what_more_is_wanted_of_the_first_counts_ahead_of_the_second(self):
        self.refuses(BadRun, swaps_between, B, (0, 1), None)
        self.refuses(BadRun, swaps_hold, B, (0, 1), None, None)
        self.refuses(BadSet, brings, NEVER, (0,), None)
        self.refuses(BadSet, needs, NEVER, (0, 2), None)
        self.refuses(BadDeed, bar_holds, B, 3, None)
        self.refuses(BadSizes, are_alike, B, ((),))
        self.refuses(BadNumber, book_of, 0, None)
        self.refuses(BadNumber, family_fault, 9, None)
        self.refuses(BadCosts, worst_of, B, ((0, 0, 1), (0, 0, 0), (0, 0, 0)), None)
        self.refuses(BadCosts, worst_of, B, ((0, 0),) * 3, (0, 1))
        self.refuses(BadDays, late_deeds, B, (1, 2, 9), None)
        self.refuses(BadReach, joined, NEVER, None)
        self.refuses(BadReach, joined, NEVER, ONE)
        self.refuses(BadSizes, joined, B, ONE)
        self.refuses(BadReach, runs_make, NEVER, None)
        self.refuses(BadDeed, in_place, B, 3, None)
        self.refuses(BadPairs, reach_book, 3, ((0, 0),), None)
        self.refuses(BadPoints, outer_points, ((0, 0), (0, 0)), None)
        self.refuses(BadDeed, ahead_chance, NEVER, 0, None)
        self.refuses(BadSeen, can_refuse, 3, ((0, 0),), None)
        self.refuses(BadSeen, sure_next, 3, ((),) * 31, None)
        for function in (order_book, of_runs, tree_book, least_seen):
            self.refuses(BadNumber, function, 0, None)
            self.refuses(BadNumber, function, 9, None)

    def test_too_many_comes_behind_all_others(self):
        self.refuses(BadRun, least_swaps, RUNS_501, None, None)
        self.refuses(BadRun, least_swaps, RUNS_501, first_run(RUNS_501), ())
        self.refuses(TooMany, least_swaps, RUNS_501, first_run(RUNS_501), first_run(RUNS_501))
        self.refuses(TooMany, runs, RUNS_501)
        for function in (beside, behind):
            self.refuses(BadBook, function, FREE, None)
            self.refuses(TooMany, function, FREE, ONE)
        self.refuses(BadDeed, in_place, FREE, 8, FREE)
        self.refuses(BadBook, in_place, FREE, 0, None)
        self.refuses(TooMany, in_place, FREE, 0, FREE_TWO)


class Classes(Soon):
    def test_by_position_and_by_name(self):
        for session in (Session(B), Session(book=B)):
            self.gives(None, session.do, 0)
            self.assertIsNone(session.do(deed=1))
            self.gives(None, session.add_lot, 2, (1,))
            self.assertIsNone(session.add_lot(lot=(0,), deed=2))
            self.gives(None, session.drop_lot, 2, (1,))
            self.assertIsNone(session.drop_lot(lot=(0,), deed=2))
            self.assertTrue(same([session.book(), session.run()], [B, (0, 1)]))
        desk = Desk()
        self.gives("0 2", desk.say, "may")
        self.assertEqual(desk.say(row="may"), "0 2")

    def test_the_first_wrong_argument(self):
        session = Session(B)
        for thing in WRONG:
            self.refuses(BadBook, Session, thing)
            self.refuses(BadDeed, session.do, thing)
            for call in (session.add_lot, session.drop_lot):
                self.refuses(BadLot, call, 1, thing)
                self.refuses(BadDeed, call, thing, (0,))
                for other in WRONG:
                    self.refuses(BadDeed, call, thing, other)
            self.refuses(BadCommand, Desk().say, thing)

    def test_lists_that_are_returned_are_new(self):
        session = Session(B)
        found = session.may()
        found.append(found)
        self.gives([0, 2], session.may)


class MainProperty(Soon):
    def test_all_runs_that_go_on_as_long_as_they_can_do_the_same_deeds(self):
        for book in some_books():
            self.assertEqual({tuple(sorted(run)) for run in runs(book)}, {reach(book)})

    def test_each_full_run_comes_of_each_other_one_by_exchanging_neighbours(self):
        for book in some_books(4):
            beginnings = set(told_runs(book))
            for run, other in itertools.product(told_full_runs(book)[:12], repeat=2):
                now = run
                for index in swaps_between(book, run, other):
                    now = (*now[:index], now[index + 1], now[index], *now[index + 2 :])
                    self.assertTrue(all(now[:size] in beginnings for size in range(len(now) + 1)))
                self.assertEqual(now, other)

    def test_what_can_be_done_together_is_closed_under_union(self):
        for book in some_books(4):
            told = set(states(book))
            for state, other in itertools.combinations(sorted(told), 2):
                self.assertIn(tuple(sorted({*state, *other})), told)

    def test_shut_sets_are_told_by_their_corners_alone(self):
        for book in some_books(4):
            told = {corners(book, shut): shut for shut in shut_sets(book)}
            self.assertEqual(len(told), len(shut_sets(book)))
            for found, shut in told.items():
                self.assertEqual(closure(book, found), shut)

    def test_no_two_deeds_bring_each_other_in(self):
        for book in some_books(4):
            for shut in shut_sets(book):
                left = [deed for deed in reach(book) if deed not in shut]
                for deed, other in itertools.combinations(left, 2):
                    first = brings(book, tuple(sorted((*shut, deed))), other)
                    self.assertFalse(first and brings(book, tuple(sorted((*shut, other))), deed))

    def test_the_cheapest_deed_each_time_gives_the_least_worst(self):
        for book in some_books(4):
            indexes = range(len(reach(book)))
            costs = [[(deed * 5 + 3) % 7 - deed * index for index in indexes] for deed in range(len(book))]
            costs = tuple(tuple(entry) for entry in costs)
            worst, run = least_worst(book, costs)
            self.assertEqual(worst, worst_of(book, costs, run))
            self.assertEqual(worst, min(worst_of(book, costs, other) for other in runs(book)))

    def test_the_fewest_runs_are_as_many_as_the_most_ways_apart(self):
        for book in some_books(4):
            if len(reach(book)) == len(book):
                number, found = most_ways(book)
                self.assertEqual((len(found), len(runs_for(book))), (number, number))
                beginnings = [{run[:size] for size in range(len(book) + 1)} for run in runs_for(book)]
                unions = {tuple(sorted(set().union(*chosen))) for chosen in itertools.product(*beginnings)}
                self.assertEqual(sorted(unions), told_states(book))
