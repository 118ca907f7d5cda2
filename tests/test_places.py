"""Promises [21] and [22]: books of rows, trees, webs and points."""

import itertools
import random

from opendeeds.books import is_book, states
from opendeeds.errors import BadDeed, BadNumber, BadPairs, BadPoints, BadSet, BadTree
from opendeeds.least import least_book
from opendeeds.places import outer_book, outer_points, reach_book, row_book, tree_book
from opendeeds.runs import count_runs, reach
from samples import B, FREE
from samples import Soon, any_objects, is_one_of, subsets, wrong_integers

FORWARD = tuple(range(8))


def told_taking(count, may_be_taken):
    """The sets that taking places one by one comes to, ascending."""
    found = {()}
    waiting = [()]
    while waiting:
        taken = waiting.pop()
        for place in range(count):
            after = tuple(sorted({*taken, place}))
            if after not in found and may_be_taken(place, taken):
                found.add(after)
                waiting.append(after)
    return sorted(found)


class Places(Soon):
    def is_least_of(self, book, told):
        """The book is the least one with just these states."""
        self.assertTrue(is_book(book))
        self.assertEqual(states(book), told)
        self.gives(least_book(book), lambda: book)


def told_in_row(count):
    """Whether a thing in a row may be taken: all on one side have been."""

    def may_be_taken(place, taken):
        before = set(range(place)) <= set(taken)
        return before or set(range(place + 1, count)) <= set(taken)

    return may_be_taken


class Rows(Places):
    def test_examples(self):
        self.gives((((),),), row_book, 1)
        self.gives((((),), ((),)), row_book, 2)
        self.gives(B, row_book, 3)
        self.gives((((),), ((0,), (2, 3)), ((0, 1), (3,)), ((),)), row_book, 4)

    def test_eight(self):
        book = row_book(8)
        self.assertEqual(book[0], ((),))
        self.assertEqual(book[3], ((0, 1, 2), (4, 5, 6, 7)))
        self.assertEqual(book[7], ((),))
        self.assertEqual(count_runs(book), 2**7)

    def test_taking_one_by_one(self):
        for count in range(1, 9):
            self.is_least_of(row_book(count), told_taking(count, told_in_row(count)))

    def test_bad_number(self):
        for thing in [0, 9, True, False, -1, None, "3", (3,), *wrong_integers(1, 8)]:
            self.refuses(BadNumber, row_book, thing)


def told_near(count, pairs):
    """For each place the set of those that a pair joins with it."""
    return [
        {other for pair in pairs for other in pair if place in pair and other != place}
        for place in range(count)
    ]


def told_in_tree(count, pairs):
    """Whether a place of a tree may be taken: all but at most one beside it have been."""
    near = told_near(count, pairs)
    return lambda place, taken: len(near[place] - set(taken)) <= 1


def all_trees(count):
    """All trees of so many places, for a small number."""
    edges = list(itertools.combinations(range(count), 2))
    for pairs in itertools.combinations(edges, count - 1):
        near = told_near(count, pairs)
        come_to = {0}
        for _ in range(count):
            come_to = come_to.union(*[near[place] for place in come_to])
        if len(come_to) == count:
            yield pairs


class Trees(Places):
    def test_examples(self):
        self.gives((((),),), tree_book, 1, ())
        self.gives((((),), ((),)), tree_book, 2, ((0, 1),))
        self.gives((((),), ((),)), tree_book, 2, ((1, 0),))
        self.gives(B, tree_book, 3, ((0, 1), (1, 2)))
        star = (((1, 2), (1, 3), (2, 3)), ((),), ((),), ((),))
        self.gives(star, tree_book, 4, ((0, 1), (3, 0), (0, 2)))

    def test_rows_are_trees(self):
        for count in range(1, 9):
            pairs = tuple((place + 1, place) for place in range(count - 1))
            self.gives(row_book(count), tree_book, count, pairs)

    def test_all_small_trees_in_any_sequence(self):
        for count, many in ((1, 1), (2, 1), (3, 3), (4, 16)):
            found = list(all_trees(count))
            self.assertEqual(len(found), many)
            for pairs in found:
                told = told_taking(count, told_in_tree(count, pairs))
                self.is_least_of(tree_book(count, pairs), told)
                turned = tuple((other, place) for place, other in pairs[::-1])
                self.gives(tree_book(count, pairs), tree_book, count, turned)

    def test_trees_of_eight(self):
        star = tuple((3, place) for place in FORWARD if place != 3)
        self.is_least_of(tree_book(8, star), told_taking(8, told_in_tree(8, star)))
        chance = random.Random(16)
        for _ in range(25):
            pairs = tuple((chance.randrange(place), place) for place in range(1, 8))
            self.is_least_of(tree_book(8, pairs), told_taking(8, told_in_tree(8, pairs)))

    def test_just_the_trees_of_all_tuples_of_pairs(self):
        for count in (1, 2, 3):
            trees = {frozenset(pairs) for pairs in all_trees(count)}
            pairs = list(itertools.permutations(range(count), 2))
            for size in range(count + 1):
                for thing in itertools.product(pairs, repeat=size):
                    joins = frozenset(tuple(sorted(pair)) for pair in thing)
                    if size == count - 1 and joins in trees:
                        self.assertTrue(is_book(tree_book(count, thing)))
                    else:
                        self.refuses(BadTree, tree_book, count, thing)

    def test_bad_tree(self):
        near = [
            (),
            ((0, 1),),
            ((0, 1), (1, 2)),
            ((0, 1), (1, 2), (2, 3), (3, 0)),
            ((0, 1), (1, 2), (2, 3), (0, 1)),
            ((0, 1), (1, 2), (2, 0)),
            ((0, 1), (0, 1), (2, 3)),
            ((0, 1), (1, 0), (2, 3)),
            ((0, 1), (1, 2), (1, 2)),
            ((1, 2), (2, 3), (3, 1)),
            ((0, 1), (1, 2), (3, 3)),
            ((0, 1), (1, 2), (2, 4)),
            ((0, 1), (1, 2), (2, -1)),
            ((0, 1), (1, 2), (2,)),
            ((0, 1), (1, 2), (2, 3, 0)),
            ((0, 1), (1, 2), [2, 3]),
            [(0, 1), (1, 2), (2, 3)],
            ((0, True), (1, 2), (2, 3)),
            ((False, 1), (1, 2), (2, 3)),
            ((0, "1"), (1, 2), (2, 3)),
            ((0, 1), (1, 2), None),
        ]
        for thing in [*near, *any_objects()]:
            self.refuses(BadTree, tree_book, 4, thing)
        for thing in any_objects():
            self.refuses(BadTree, tree_book, 4, ((0, 1), (1, 2), thing))
            if not is_one_of(thing, [0, 1, 2]):
                self.refuses(BadTree, tree_book, 4, ((0, 1), (1, 2), (3, thing)))
            if not is_one_of(thing, [()]):
                self.refuses(BadTree, tree_book, 1, thing)
        self.refuses(BadTree, tree_book, 1, ((0, 0),))
        self.refuses(BadTree, tree_book, 1, ((0, 1),))

    def test_bad_number(self):
        for thing in wrong_integers(1, 8):
            self.refuses(BadNumber, tree_book, thing, ())
            self.refuses(BadNumber, tree_book, thing, None)


def told_in_web(count, pairs, place):
    """Whether a place may be come to: it is the first one, or one beside it has been."""
    near = told_near(count, pairs)
    return lambda other, taken: other == place or bool(near[other] & set(taken))


class Webs(Places):
    def test_examples(self):
        self.gives((((),), ((0,),), ((0, 1),)), reach_book, 3, ((0, 1), (1, 2)), 0)
        self.gives((((1,),), ((),), ((1,),)), reach_book, 3, ((0, 1), (1, 2)), 1)
        self.gives((((),), ((0,),), ((0,),)), reach_book, 3, ((0, 1), (1, 2), (2, 0)), 0)
        square = (((),), ((0,),), ((0, 1), (0, 3)), ((0,),))
        self.gives(square, reach_book, 4, ((0, 1), (1, 2), (2, 3), (3, 0)), 0)

    def test_places_that_are_not_come_to(self):
        self.gives((((),), (), ()), reach_book, 3, ((1, 2),), 0)
        self.gives(((), ((2,),), ((),)), reach_book, 3, ((1, 2),), 2)
        for count in range(1, 9):
            for place in range(count):
                book = reach_book(count, (), place)
                self.assertEqual(reach(book), (place,))
                self.gives(((),) * place + (((),),) + ((),) * (count - place - 1), reach_book, count, (), place)

    def test_the_same_pair_twice_and_turned_round(self):
        told = reach_book(4, ((0, 1), (1, 2), (2, 3)), 1)
        for pairs in [
            ((1, 0), (2, 1), (3, 2)),
            ((2, 3), (1, 2), (0, 1)),
            ((0, 1), (1, 2), (2, 3), (1, 0), (0, 1)),
            ((0, 1), (1, 2), (2, 3)) * 40,
        ]:
            self.gives(told, reach_book, 4, pairs, 1)

    def test_one_place_alone(self):
        self.gives((((),),), reach_book, 1, (), 0)

    def test_small_webs(self):
        for count in (1, 2, 3, 4):
            edges = list(itertools.combinations(range(count), 2))
            for pairs in subsets(edges):
                for place in range(count):
                    told = told_taking(count, told_in_web(count, pairs, place))
                    self.is_least_of(reach_book(count, pairs, place), told)

    def test_webs_of_eight(self):
        every = tuple(itertools.combinations(range(8), 2))
        book = tuple(((),) if other == 5 else ((5,),) for other in FORWARD)
        self.gives(book, reach_book, 8, every, 5)
        chance = random.Random(17)
        for many in (5, 7, 9, 12):
            for _ in range(4):
                pairs = tuple(tuple(chance.sample(range(8), 2)) for _ in range(many))
                place = chance.randrange(8)
                told = told_taking(8, told_in_web(8, pairs, place))
                self.is_least_of(reach_book(8, pairs, place), told)

    def test_bad_pairs(self):
        near = [
            ((0, 0),),
            ((0, 3),),
            ((-1, 0),),
            ((0,),),
            ((0, 1, 2),),
            ((0, True),),
            ((False, 1),),
            ([0, 1],),
            [(0, 1)],
            [],
            (0, 1),
            ("01",),
            ((0, 1), None),
        ]
        for thing in [*near, *any_objects()]:
            if not is_one_of(thing, [()]):
                self.refuses(BadPairs, reach_book, 3, thing, 0)
                self.refuses(BadPairs, reach_book, 3, thing, None)
            if not is_one_of(thing, [(0, 1)]):
                self.refuses(BadPairs, reach_book, 3, ((0, 1), thing), 0)

    def test_a_place_beyond(self):
        for thing in wrong_integers(0, 2):
            self.refuses(BadDeed, reach_book, 3, ((0, 1), (1, 2)), thing)
        for count in range(1, 9):
            self.refuses(BadDeed, reach_book, count, (), count)
            self.refuses(BadDeed, reach_book, count, (), -1)

    def test_bad_number(self):
        for thing in wrong_integers(1, 8):
            self.refuses(BadNumber, reach_book, thing, (), 0)
            self.refuses(BadNumber, reach_book, thing, None, None)


# Points of all sorts: corners, points amid, on lines, in a heap.
SQUARE = ((0, 0), (4, 0), (4, 4), (0, 4))
POINTS = [
    ((0, 0),),
    ((-3, 5), (7, 7)),
    ((0, 0), (1, 1), (2, 2)),
    ((2, 2), (0, 0), (1, 1), (-5, -5)),
    ((0, 3), (0, -3), (0, 1), (0, 2), (0, 0)),
    ((5, 1), (2, 1), (9, 1), (-4, 1)),
    SQUARE,
    (*SQUARE, (2, 2)),
    (*SQUARE, (2, 0), (1, 1)),
    (*SQUARE, (2, 2), (1, 2), (3, 2)),
    ((2, 2), *SQUARE, (4, 2), (0, 1)),
    ((0, 0), (10, 0), (0, 10), (1, 1), (2, 1), (1, 2), (3, 3)),
    ((-1000, -1000), (1000, 1000), (1000, -1000), (-1000, 1000), (0, 0), (999, 1000), (1000, 999)),
    ((-1000, 0), (1000, 1), (0, 0), (0, 1), (-999, 0), (999, 1)),
    ((0, 0), (1000, 999), (999, 998), (1, 1)),
    ((0, 0), (1, 0), (0, 1), (1, 1), (2, 0), (0, 2), (2, 1)),
]


def lies_in(point, others):
    """Whether the point is amid others: on a way between two of them or within three."""

    def area(first, second, third):
        east, north = second[0] - first[0], second[1] - first[1]
        return east * (third[1] - first[1]) - north * (third[0] - first[0])

    for first, second in itertools.combinations(others, 2):
        low = tuple(map(min, first, second))
        high = tuple(map(max, first, second))
        if area(first, second, point) == 0 and all(map(lambda a, b, c: a <= b <= c, low, point, high)):
            return True
    for first, second, third in itertools.combinations(others, 3):
        turns = [area(first, second, point), area(second, third, point), area(third, first, point)]
        if all(turn > 0 for turn in turns) or all(turn < 0 for turn in turns):
            return True
    return False


def told_outer(points, left):
    """The indexes of the outer ones: those that do not lie amid others that are left."""
    return [
        index for index in left
        if not lies_in(points[index], [points[other] for other in left if other != index])
    ]


def random_points(chance, many, spread):
    """So many unlike points, not far apart where spread is small."""
    found = []
    while len(found) < many:
        point = (chance.randint(-spread, spread), chance.randint(-spread, spread))
        if point not in found:
            found.append(point)
    return tuple(found)


def some_points():
    """Points by sevens and fewer, many on lines, others far apart."""
    chance = random.Random(18)
    return [
        *POINTS,
        *[random_points(chance, many, spread) for many in range(1, 8) for spread in (2, 3, 1000) for _ in range(3)],
    ]


class Points(Places):
    def test_examples(self):
        self.gives((((),),), outer_book, ((5, -5),))
        self.gives((((),), ((),)), outer_book, ((0, 0), (1, 0)))
        self.gives(B, outer_book, ((0, 0), (1, 0), (5, 0)))
        self.gives((((),), ((),), ((0,), (1,))), outer_book, ((0, 0), (2, 2), (1, 1)))
        self.gives((((),),) * 4, outer_book, SQUARE)
        self.gives((((),), ((),), ((),), ((0,), (1,), (2,))), outer_book, ((0, 0), (9, 0), (0, 9), (1, 1)))
        # One amid a square lies on both lines from corner to corner.
        amid = ((0, 1), (0, 3), (1, 2), (2, 3))
        self.gives((*FREE[:4], amid), outer_book, (*SQUARE, (2, 2)))

    def test_points_on_one_line(self):
        for points in [tuple((at, 0) for at in range(7)), tuple((3, 10 * at) for at in range(7))]:
            self.gives(row_book(7), outer_book, points)
        points = tuple((-1000 + 300 * at, 1000 - 300 * at) for at in range(7))
        self.gives(row_book(7), outer_book, points)

    def test_seven_around(self):
        points = ((0, 0), (10, -5), (20, 0), (25, 10), (20, 20), (10, 25), (0, 20))
        self.gives((((),),) * 7, outer_book, points)

    def test_taking_one_by_one(self):
        for points in some_points():
            every = set(range(len(points)))
            may_be_taken = lambda index, taken: index in told_outer(points, sorted(every - set(taken)))
            told = told_taking(len(points), may_be_taken)
            self.is_least_of(outer_book(points), told)
            self.assertEqual(reach(outer_book(points)), tuple(sorted(every)))

    def test_far_out(self):
        for point in [(1001, 0), (0, 1001), (-1001, 0), (0, -1001), (10**29, 0)]:
            self.refuses(BadPoints, outer_book, (point,))
            self.refuses(BadPoints, outer_points, ((0, 0), point), (0,))
        for point in [(1000, 1000), (-1000, -1000), (1000, -1000)]:
            self.gives((((),),), outer_book, (point,))
            self.gives([0], outer_points, (point,), (0,))
        # A point just off a long line.
        self.gives((((),),) * 3, outer_book, ((-1000, -1000), (1000, 999), (0, -1)))
        self.gives([0, 1, 2], outer_points, ((-1000, -1000), (1000, 999), (0, 0)), (0, 1, 2))
        self.gives([0, 1], outer_points, ((-1000, -1000), (1000, 1000), (0, 0)), (0, 1, 2))

    def test_bad_points(self):
        near = [
            (),
            ((0, 0), (0, 0)),
            ((0, 0), (1, 1), (0, 0)),
            tuple((at, at * at) for at in range(8)),
            ((0,),),
            ((),),
            ((0, 0, 0),),
            ((0, 0), (1,)),
            ((0, True),),
            ((False, 0),),
            ((0, "0"),),
            ((0, None),),
            ([0, 0],),
            ((0, 0), [1, 1]),
            [(0, 0)],
            (0, 0),
            ("00",),
            {(0, 0)},
            {(0, 0): 1},
            ((0, (0,)),),
        ]
        for thing in [*near, *any_objects()]:
            self.refuses(BadPoints, outer_book, thing)
            self.refuses(BadPoints, outer_points, thing, (0,))
            self.refuses(BadPoints, outer_points, thing, None)
        for thing in any_objects():
            self.refuses(BadPoints, outer_book, ((0, 0), thing))
            if not is_one_of(thing, [0, 1, -1]):
                self.refuses(BadPoints, outer_book, ((5, thing),))
                self.refuses(BadPoints, outer_book, ((thing, 5),))


class OuterPoints(Soon):
    POINTS = ((0, 0), (4, 0), (4, 4), (0, 4), (2, 2), (2, 0))

    def test_examples(self):
        self.gives([0, 1, 2, 3], outer_points, self.POINTS, (0, 1, 2, 3, 4, 5))
        self.gives([0, 1, 2], outer_points, self.POINTS, (0, 1, 2, 4, 5))
        self.gives([0, 2], outer_points, self.POINTS, (0, 2, 4))
        self.gives([1, 4, 5], outer_points, self.POINTS, (1, 4, 5))

    def test_one_alone(self):
        for index in range(6):
            self.gives([index], outer_points, self.POINTS, (index,))

    def test_others_that_could_not_have_been_taken(self):
        self.gives([4], outer_points, self.POINTS, (4,))
        self.gives([4, 5], outer_points, self.POINTS, (4, 5))
        self.gives([0, 1], outer_points, ((0, 0), (9, 0), (5, 0), (3, 0)), (0, 1, 3))

    def test_all_sets_that_are_left(self):
        for points in some_points():
            for left in subsets(range(len(points)))[1:]:
                self.gives(told_outer(points, left), outer_points, points, left)

    def test_bad_set(self):
        near = [(), (1, 0), (0, 0), (6,), (0, 6), (-1, 0), [0], (True,), (False,), (0, True), (0, "1")]
        near += [((0,),), (None,), {0}, "0", 0, None, tuple(range(1000))]
        for thing in [*near, *any_objects()]:
            if not is_one_of(thing, [(0,)]):
                self.refuses(BadSet, outer_points, self.POINTS, thing)
        self.refuses(BadSet, outer_points, ((0, 0),), (1,))
