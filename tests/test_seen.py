"""Promise [24]: books of runs that were seen."""

import itertools
import random

from opendeeds.books import is_book, may, states
from opendeeds.errors import BadDone, BadNumber, BadRefused, BadSeen
from opendeeds.least import least_book
from opendeeds.orders import of_runs
from opendeeds.runs import is_run
from opendeeds.seen import can_refuse, least_seen, sure_next
from samples import B, FREE, NO_LOTS
from samples import Soon, all_books, any_objects, is_one_of, subsets, told_may, told_states, wrong_integers

FORWARD = tuple(range(8))

# Things that are no seen runs of three deeds.
NOT_SEEN = [
    (),
    ((0, 0),),
    ((0, 1, 0),),
    ((0, 3),),
    ((3,),),
    ((-1,),),
    ((10**29,),),
    ((True,),),
    ((0, True),),
    ((False,),),
    (("0",),),
    ((None,),),
    (((0,),),),
    ([],),
    ([0],),
    ((0, 1), [2]),
    [(0, 1)],
    [],
    (0, 1),
    (0,),
    ("01",),
    ((0, 1), None),
    ((0, 1), 2),
    ((0, 1, 2, 0),),
    (range(3),),
    {(0, 1)},
    {(0, 1): True},
    ((),) * 31,
    ((0, 1),) * 31,
    "01",
    None,
]

ALL_RUNS_OF_THREE = [run for size in range(4) for run in itertools.permutations(range(3), size)]


def told_family(runs):
    """The unions of a beginning, perhaps an empty one, of each of the runs, ascending."""
    found = {frozenset()}
    for run in runs:
        found = {state.union(run[:size]) for state in found for size in range(len(run) + 1)}
    return sorted(tuple(sorted(state)) for state in found)


def some_runs(chance, count, many):
    """So many runs of none or more of count deeds."""
    return tuple(tuple(chance.sample(range(count), chance.randint(0, count))) for _ in range(many))


class LeastSeen(Soon):
    def test_examples(self):
        self.gives(B, least_seen, 3, ((0, 1, 2), (2, 1, 0)))
        self.gives((((),), ((0,),), ()), least_seen, 3, ((0, 1),))
        self.gives((((),), ((0,), (2,)), ((),)), least_seen, 3, ((0, 1), (2, 1)))

    def test_a_tuple_that_is_empty(self):
        for count in range(1, 9):
            self.gives(((),) * count, least_seen, count, ((),))
            self.gives(((),) * count, least_seen, count, ((),) * 30)

    def test_like_ones(self):
        self.gives(B, least_seen, 3, ((0, 1, 2), (2, 1, 0)) * 15)
        self.gives((((),),), least_seen, 1, ((0,), (), (0,)))

    def test_thirty_and_thirty_one(self):
        chance = random.Random(21)
        seen = some_runs(chance, 8, 30)
        self.assertEqual(states(least_seen(8, seen)), told_family(seen))
        self.gives((((),),), least_seen, 1, ((0,),) * 30)
        self.refuses(BadSeen, least_seen, 8, (*seen, ()))
        self.refuses(BadSeen, least_seen, 1, ((0,),) * 31)

    def test_the_unions_of_beginnings(self):
        chance = random.Random(22)
        for count in range(1, 9):
            for many in (1, 2, 3, 5, 12):
                seen = some_runs(chance, count, many)
                book = least_seen(count, seen)
                self.assertTrue(is_book(book))
                self.assertEqual(len(book), count)
                self.assertEqual(states(book), told_family(seen))
                self.gives(least_book(book), least_seen, count, seen)
                for run in seen:
                    self.assertTrue(is_run(book, run))

    def test_all_pairs_of_runs_of_three(self):
        for seen in itertools.product(ALL_RUNS_OF_THREE, repeat=2):
            book = least_seen(3, seen)
            self.assertEqual(states(book), told_family(seen))
            self.gives(book, least_book, book)

    def test_each_book_with_the_runs_has_these_states(self):
        books = [(book, set(told_states(book))) for book in all_books(3)[::5]]
        for seen in [((0, 1), (2,)), ((1, 0, 2), (2, 1)), ((0,), (1,)), ((2, 1, 0),), ((),)]:
            told = set(states(least_seen(3, seen)))
            for book, found in books:
                if all(is_run(book, run) for run in seen):
                    self.assertLessEqual(told, found)

    def test_full_runs_make_the_same_as_of_runs(self):
        self.gives(of_runs(3, ((0, 2, 1), (1, 0, 2))), least_seen, 3, ((0, 2, 1), (1, 0, 2)))
        turned = tuple(FORWARD[at:] + FORWARD[:at] for at in range(8))
        self.gives(FREE, least_seen, 8, turned)

    def test_deeds_that_were_not_seen(self):
        self.gives(((),) * 7 + (((),),), least_seen, 8, ((7,),))
        self.gives(NO_LOTS, least_seen, 8, ((),))


class BadArguments(Soon):
    FUNCTIONS = [(least_seen, ()), (can_refuse, ((),)), (sure_next, ((),))]

    def test_bad_seen(self):
        for function, more in self.FUNCTIONS:
            for thing in [*NOT_SEEN, *any_objects()]:
                if not is_one_of(thing, [((),)]):
                    self.refuses(BadSeen, function, 3, thing, *more)
            for thing in any_objects():
                if not is_one_of(thing, [(), (0,)]):
                    self.refuses(BadSeen, function, 3, ((0, 1), thing), *more)
                if not is_one_of(thing, [1, 2]):
                    self.refuses(BadSeen, function, 3, ((0, thing),), *more)
            self.refuses(BadSeen, function, 8, ((8,),), *more)
            self.refuses(BadSeen, function, 7, ((0, 7),), *more)
            self.refuses(BadSeen, function, 1, ((0, 0),), *more)

    def test_bad_number(self):
        for function, more in self.FUNCTIONS:
            for thing in [0, 9, True, None, *wrong_integers(1, 8)]:
                self.refuses(BadNumber, function, thing, ((0,),), *more)
                self.refuses(BadNumber, function, thing, None, *more)


def told_can_refuse(runs, refused):
    """Whether the least book of the runs refuses each told deed behind the run told with it."""
    family = told_family(runs)
    return not any(
        deed not in run and tuple(sorted({*run, deed})) in family for run, deed in refused
    )


class CanRefuse(Soon):
    def test_examples(self):
        self.gives(True, can_refuse, 3, ((0, 1, 2),), (((), 1),))
        self.gives(False, can_refuse, 3, ((0, 1, 2),), (((0,), 1),))
        self.gives(False, can_refuse, 3, ((0, 1), (2,)), (((2, 0), 1),))
        self.gives(True, can_refuse, 3, ((0, 1), (2,)), (((2,), 1),))
        self.gives(False, can_refuse, 3, ((0, 1, 2),), (((), 1), ((0,), 1)))

    def test_no_told_runs(self):
        for seen in [((),), ((0, 1),), ((0,), (1, 0))]:
            self.gives(True, can_refuse, 2, seen, ())

    def test_told_runs_are_runs_too(self):
        # Behind (1,) alone 0 may be refused; but told as runs, 1 and 0 may both be first.
        self.gives(True, can_refuse, 2, ((1,),), (((), 0),))
        self.gives(False, can_refuse, 2, ((1,),), (((0,), 1),))
        self.gives(False, can_refuse, 2, ((),), (((0,), 1), ((1,), 0)))
        self.gives(False, can_refuse, 2, ((),), (((), 0), ((0,), 1)))
        self.gives(True, can_refuse, 2, ((),), (((0,), 1),))

    def test_a_deed_that_stands_in_its_own_run(self):
        self.gives(True, can_refuse, 2, ((0, 1), (1, 0)), (((0,), 0),))
        self.gives(True, can_refuse, 2, ((0, 1), (1, 0)), (((0, 1), 0), ((0, 1), 1), ((1,), 1)))
        self.gives(False, can_refuse, 2, ((0, 1),), (((0,), 0), ((), 0)))

    def test_thirty_and_thirty_one(self):
        self.gives(True, can_refuse, 3, ((0,),), (((0,), 1),) * 30)
        self.gives(True, can_refuse, 3, ((0,),) * 30, (((0,), 1),) * 30)
        self.gives(False, can_refuse, 3, ((0,),) * 30, (((0,), 1),) * 29 + (((), 0),))
        self.refuses(BadRefused, can_refuse, 3, ((0,),), (((0,), 1),) * 31)
        self.refuses(BadRefused, can_refuse, 1, ((),), (((), 0),) * 31)

    def test_more_than_thirty_unlike_runs_together(self):
        seen = tuple(itertools.permutations(range(1, 8), 2))[:30]
        told = tuple((tuple(run), 0) for run in itertools.permutations(range(1, 8), 2))[12:42]
        self.gives(True, can_refuse, 8, seen, told)
        self.gives(False, can_refuse, 8, seen, (*told[:29], ((1,), 2)))
        self.gives(told_can_refuse([*seen, *[run for run, _ in told]], told), can_refuse, 8, seen, told)

    def test_going_through_all_books_of_two_and_some_of_three(self):
        chance = random.Random(23)
        for count, books in ((1, all_books(1)), (2, all_books(2)), (3, all_books(3))):
            for _ in range(40 if count < 3 else 12):
                seen = some_runs(chance, count, chance.randint(1, 2))
                runs = some_runs(chance, count, chance.randint(0, 2))
                told = tuple((run, chance.randrange(count)) for run in runs)
                found = any(
                    all(is_run(book, run) for run in (*seen, *runs))
                    and not any(deed in may(book, tuple(sorted(run))) for run, deed in told)
                    for book in books
                )
                self.gives(found, can_refuse, count, seen, told)

    def test_just_if_the_least_one_is_such(self):
        chance = random.Random(24)
        answers = set()
        for _ in range(300):
            count = chance.randint(1, 8)
            seen = some_runs(chance, count, chance.randint(1, 3))
            told = tuple((run, chance.randrange(count)) for run in some_runs(chance, count, chance.randint(0, 3)))
            runs = [*seen, *[run for run, _ in told]]
            book = least_seen(count, tuple(runs))
            found = not any(deed in told_may(book, run) for run, deed in told)
            answers.add(found)
            self.gives(found, can_refuse, count, seen, told)
            self.gives(told_can_refuse(runs, told), can_refuse, count, seen, told)
        self.assertEqual(answers, {True, False})

    def test_bad_refused(self):
        near = [
            (((0, 0), 1),),
            (((0, 3), 1),),
            (((0,), 3),),
            (((0,), -1),),
            (((0,), True),),
            (((0,), "1"),),
            (((0,), None),),
            (((0,), (1,)),),
            (((True,), 0),),
            (((0,),),),
            (((0,), 1, 2),),
            ((),),
            (((0,), 1), ()),
            (([0], 1),),
            ([(0,), 1],),
            [((0,), 1)],
            [],
            ((0, 1),),
            ((0,), 1),
            (0, 1),
            ("01",),
            (((0,), 1), None),
            ((1, (0,)),),
            {((0,), 1)},
            {((0,), 1): 1},
            None,
        ]
        for thing in [*near, *any_objects()]:
            if not is_one_of(thing, [()]):
                self.refuses(BadRefused, can_refuse, 3, ((0, 1),), thing)
        for thing in any_objects():
            self.refuses(BadRefused, can_refuse, 3, ((0, 1),), (((0,), 1), thing))
            if not is_one_of(thing, [(), (0,)]):
                self.refuses(BadRefused, can_refuse, 3, ((0, 1),), ((thing, 1),))
            if not is_one_of(thing, [0, 1, 2]):
                self.refuses(BadRefused, can_refuse, 3, ((0, 1),), (((0,), thing),))
        self.refuses(BadRefused, can_refuse, 8, ((0, 1),), (((0,), 8),))
        self.refuses(BadRefused, can_refuse, 7, ((0, 1),), (((7,), 0),))


def told_sure_next(count, seen, done):
    """The deeds that are the only ones of some state of the least book that are not done."""
    left = [set(state) - set(done) for state in told_family(seen)]
    return sorted({deed for more in left if len(more) == 1 for deed in more})


class SureNext(Soon):
    def test_examples(self):
        seen = ((0, 1, 2), (2, 1, 0))
        self.gives([0, 2], sure_next, 3, seen, ())
        self.gives([1, 2], sure_next, 3, seen, (0,))
        self.gives([1], sure_next, 3, seen, (0, 2))
        self.gives([], sure_next, 3, seen, (0, 1, 2))

    def test_done_sets_that_are_no_states(self):
        seen = ((0, 1, 2),)
        self.gives([0], sure_next, 3, seen, (1,))
        self.gives([0], sure_next, 3, seen, (2,))
        self.gives([0], sure_next, 3, seen, (1, 2))
        self.gives([1], sure_next, 3, seen, (0, 2))
        self.gives([0, 2], sure_next, 3, ((0, 1), (2, 1)), (1,))
        self.gives([], sure_next, 3, ((),), (1,))

    def test_in_each_book_with_these_runs_of_which_it_is_a_state(self):
        chance = random.Random(25)
        for count, books in ((1, all_books(1)), (2, all_books(2)), (3, all_books(3))):
            told = [(book, set(told_states(book))) for book in books]
            for _ in range(12):
                seen = some_runs(chance, count, chance.randint(1, 2))
                fitting = [(book, found) for book, found in told if all(is_run(book, run) for run in seen)]
                for done in subsets(range(count)):
                    sure = set(range(count))
                    for book, found in fitting:
                        if done in found:
                            sure &= set(told_may(book, done))
                    self.gives(sorted(sure), sure_next, count, seen, done)

    def test_eight_deeds(self):
        chance = random.Random(26)
        for many in (1, 2, 4, 30):
            seen = some_runs(chance, 8, many)
            for done in subsets(range(8))[::5]:
                self.gives(told_sure_next(8, seen, done), sure_next, 8, seen, done)
        turned = tuple(FORWARD[at:] + FORWARD[:at] for at in range(8))
        for done in subsets(range(8)):
            self.gives([deed for deed in FORWARD if deed not in done], sure_next, 8, turned, done)

    def test_a_new_list_each_time(self):
        seen = ((0, 1, 2), (2, 1, 0))
        found = sure_next(3, seen, ())
        found.clear()
        self.gives([0, 2], sure_next, 3, seen, ())

    def test_bad_done(self):
        near = [(1, 0), (0, 0), (3,), (0, 3), (-1,), (10**29,), [], [0], (True,), (0, True), ("0",), None]
        for thing in [*near, *any_objects()]:
            if not is_one_of(thing, [(), (0,)]):
                self.refuses(BadDone, sure_next, 3, ((0, 1),), thing)
        self.refuses(BadDone, sure_next, 1, ((0,),), (1,))
        self.refuses(BadDone, sure_next, 8, ((0,),), (8,))
