"""Promise [23]: even chances."""

import itertools
import math
import random
from fractions import Fraction

from opendeeds.chance import ahead_chance, mean_place, run_chance, state_chances
from opendeeds.errors import BadDeed, BadNumber, BadRun
from samples import B, CHAIN, EACH_OTHER, FORTY, FORTY_LAST, FREE, HALF_BARRED, NEVER, NO_LOTS, ONE
from samples import Soon, any_objects, is_one_of, random_book, same, some_books, subsets, told_full_runs
from samples import told_may, told_reach, told_runs, told_states, wrong_integers

FORWARD = tuple(range(8))


def told_chance(book, run):
    """The chance that the run made by even chance begins with a run."""
    chance = Fraction(1)
    for index in range(len(run)):
        chance *= Fraction(1, len(told_may(book, run[:index])))
    return chance


def told_chances(book):
    """Each full run with its own chance."""
    return [(run, told_chance(book, run)) for run in told_full_runs(book)]


def in_least_terms(chance):
    """The fraction as the tuple that the document words."""
    return (chance.numerator, chance.denominator)


class Fractions(Soon):
    def test_kind(self):
        for found in [run_chance(B, ()), ahead_chance(B, 0, 1), mean_place(B, 1)]:
            self.assertIs(type(found), tuple)
            self.assertEqual([type(part) for part in found], [int, int])

    def test_least_terms(self):
        for book in [*some_books(4), HALF_BARRED, FREE]:
            within = told_reach(book)
            found = [mean_place(book, deed) for deed in within]
            found += [ahead_chance(book, *pair) for pair in itertools.permutations(within, 2)]
            found += [chance for size in range(len(within) + 1) for _, chance in state_chances(book, size)]
            for top, bottom in found:
                self.assertGreaterEqual(bottom, 1)
                self.assertEqual(math.gcd(top, bottom), 1)


class RunChance(Soon):
    def test_examples(self):
        self.gives((1, 1), run_chance, B, ())
        self.gives((1, 2), run_chance, B, (0,))
        self.gives((1, 4), run_chance, B, (0, 1))
        self.gives((1, 4), run_chance, B, (0, 1, 2))
        self.gives((1, 4), run_chance, B, (2, 0, 1))

    def test_no_run_but_the_empty_one(self):
        for book in (ONE, NO_LOTS, EACH_OTHER, NEVER, FREE):
            self.gives((1, 1), run_chance, book, ())
        self.gives((1, 1), run_chance, NEVER, (2,))

    def test_all_runs_of_small_books(self):
        for book in [*some_books(), HALF_BARRED]:
            for run in told_runs(book):
                self.gives(in_least_terms(told_chance(book, run)), run_chance, book, run)

    def test_full_runs_are_1_together(self):
        for book in [*some_books(4), HALF_BARRED]:
            chances = [Fraction(*run_chance(book, run)) for run in told_full_runs(book)]
            self.assertEqual(sum(chances), 1)

    def test_eight_deeds(self):
        self.gives((1, 40320), run_chance, FREE, FORWARD)
        self.gives((1, 40320), run_chance, FREE, FORWARD[::-1])
        self.gives((1, 40320), run_chance, FREE, FORWARD[:7])
        self.gives((1, 56), run_chance, FREE, (3, 1))
        self.gives((1, 1), run_chance, CHAIN, FORWARD)

    def test_bad_run(self):
        near = [(1,), (0, 0), (0, 1, 2, 0), (3,), (-1,), [], [0], (True,), (0, True), ("0",), ((0,),)]
        for thing in [*near, *any_objects()]:
            if not is_one_of(thing, [(), (0,)]):
                self.refuses(BadRun, run_chance, B, thing)
        self.refuses(BadRun, run_chance, NEVER, (0,))


class StateChances(Soon):
    def test_examples(self):
        self.gives([((), (1, 1))], state_chances, B, 0)
        self.gives([((0,), (1, 2)), ((2,), (1, 2))], state_chances, B, 1)
        self.gives([((0, 1), (1, 4)), ((0, 2), (1, 2)), ((1, 2), (1, 4))], state_chances, B, 2)
        self.gives([((0, 1, 2), (1, 1))], state_chances, B, 3)

    def test_none_and_as_many_as_reach_has(self):
        for book in [*some_books(4), HALF_BARRED, FORTY, FORTY_LAST, NO_LOTS]:
            within = told_reach(book)
            self.gives([((), (1, 1))], state_chances, book, 0)
            self.gives([(within, (1, 1))], state_chances, book, len(within))

    def test_small_books(self):
        for book in [*some_books(), HALF_BARRED]:
            chances = told_chances(book)
            for size in range(len(told_reach(book)) + 1):
                told = {state: Fraction(0) for state in told_states(book) if len(state) == size}
                for run, chance in chances:
                    told[tuple(sorted(run[:size]))] += chance
                found = [(state, in_least_terms(told[state])) for state in sorted(told)]
                self.gives(found, state_chances, book, size)
                self.assertEqual(sum(told.values()), 1)

    def test_eight_deeds(self):
        for size in range(9):
            many = math.comb(8, size)
            found = [(state, (1, many)) for state in subsets(FORWARD) if len(state) == size]
            self.gives(found, state_chances, FREE, size)
            self.gives([(FORWARD[:size], (1, 1))], state_chances, CHAIN, size)

    def test_a_new_list_each_time(self):
        found = state_chances(B, 1)
        again = state_chances(B, 1)
        found.clear()
        self.assertTrue(same(again, state_chances(B, 1)))
        self.assertEqual(len(again), 2)

    def test_bad_number(self):
        for thing in [-1, 4, True, False, None, "1", (1,), *wrong_integers(0, 3)]:
            self.refuses(BadNumber, state_chances, B, thing)
        for thing in [2, 3, -1, True]:
            self.refuses(BadNumber, state_chances, NEVER, thing)
        self.refuses(BadNumber, state_chances, HALF_BARRED, 5)
        self.refuses(BadNumber, state_chances, ONE, 1)
        self.refuses(BadNumber, state_chances, FREE, 9)


class AheadChance(Soon):
    def test_examples(self):
        self.gives((1, 2), ahead_chance, B, 0, 2)
        self.gives((3, 4), ahead_chance, B, 0, 1)
        self.gives((1, 4), ahead_chance, B, 1, 2)

    def test_sure_and_never(self):
        self.gives((1, 1), ahead_chance, CHAIN, 0, 7)
        self.gives((0, 1), ahead_chance, CHAIN, 7, 0)
        self.gives((0, 1), ahead_chance, CHAIN, 4, 3)

    def test_small_books(self):
        for book in [*some_books(), HALF_BARRED]:
            chances = told_chances(book)
            for deed, other in itertools.permutations(told_reach(book), 2):
                told = sum(chance for run, chance in chances if run.index(deed) < run.index(other))
                self.gives(in_least_terms(Fraction(told)), ahead_chance, book, deed, other)

    def test_both_sequences_together_are_1(self):
        chance = random.Random(19)
        for book in [*some_books(4), FREE, FORTY_LAST, random_book(8, 4, chance), random_book(8, 9, chance)]:
            for deed, other in itertools.combinations(told_reach(book), 2):
                both = [ahead_chance(book, deed, other), ahead_chance(book, other, deed)]
                self.assertEqual(Fraction(*both[0]) + Fraction(*both[1]), 1)

    def test_eight_deeds(self):
        for deed, other in itertools.permutations(FORWARD, 2):
            self.gives((1, 2), ahead_chance, FREE, deed, other)

    def test_bad_deed(self):
        for deed in range(3):
            self.refuses(BadDeed, ahead_chance, B, deed, deed)
        for thing in wrong_integers(0, 2):
            self.refuses(BadDeed, ahead_chance, B, thing, 0)
            self.refuses(BadDeed, ahead_chance, B, 0, thing)
        for deed in (3, 4, 5, 6, 8):
            self.refuses(BadDeed, ahead_chance, HALF_BARRED, deed, 0)
            self.refuses(BadDeed, ahead_chance, HALF_BARRED, 0, deed)
        self.refuses(BadDeed, ahead_chance, NEVER, 0, 1)
        self.refuses(BadDeed, ahead_chance, ONE, 0, 0)


class MeanPlace(Soon):
    def test_examples(self):
        self.gives((3, 4), mean_place, B, 0)
        self.gives((3, 2), mean_place, B, 1)
        self.gives((3, 4), mean_place, B, 2)
        self.gives((0, 1), mean_place, NEVER, 2)

    def test_small_books(self):
        for book in [*some_books(), HALF_BARRED]:
            chances = told_chances(book)
            for deed in told_reach(book):
                told = sum(chance * run.index(deed) for run, chance in chances)
                self.gives(in_least_terms(Fraction(told)), mean_place, book, deed)

    def test_all_deeds_together_are_the_sum_of_all_indexes(self):
        chance = random.Random(20)
        for book in [*some_books(), FORTY_LAST, random_book(8, 4, chance), random_book(8, 9, chance)]:
            within = told_reach(book)
            places = [Fraction(*mean_place(book, deed)) for deed in within]
            self.assertEqual(sum(places), sum(range(len(within))))

    def test_eight_deeds(self):
        for deed in FORWARD:
            self.gives((7, 2), mean_place, FREE, deed)
            self.gives((deed, 1), mean_place, CHAIN, deed)

    def test_bad_deed(self):
        for thing in wrong_integers(0, 2):
            self.refuses(BadDeed, mean_place, B, thing)
        for deed in (3, 4, 5, 6, 8):
            self.refuses(BadDeed, mean_place, HALF_BARRED, deed)
        self.refuses(BadDeed, mean_place, ONE, 0)
