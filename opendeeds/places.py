"""Books of places and of points: rows, trees, webs, and outer points."""

from opendeeds.books import check_count
from opendeeds.errors import BadDeed, BadPoints, BadSet, BadTree
from opendeeds.families import book_of_family
from opendeeds.kinds import are_pairs, check_pairs, is_deed_set, is_integer
from opendeeds.least import least_book
from opendeeds.masks import deeds_of, greatest_state, lot_masks

MOST_POINTS = 7
FARTHEST = 1000


def row_book(count):
    """The least book of things in a row that may be taken once all on one side of them have been."""
    check_count(count)
    sides = [(tuple(range(at)), tuple(range(at + 1, count))) for at in range(count)]
    return least_book(tuple([tuple(sorted(set(lots))) for lots in sides]))


def places_beside(count, pairs):
    """For each place the ascending tuple of those that a pair joins with it."""
    found = [0 for _ in range(count)]
    for place, other in pairs:
        found[place] = found[place] | (1 << other)
        found[other] = found[other] | (1 << place)
    return [deeds_of(mask) for mask in found]


def web_book(count, pairs, place):
    """A book by which a place may be come to from the beginning, each other one from one beside it."""
    entries = [tuple([(other,) for other in near]) for near in places_beside(count, pairs)]
    return (*entries[:place], ((),), *entries[place + 1 :])


def check_tree(count, pairs):
    """Raise BadTree for what is no tuple of pairs, one fewer than places, that join all of them."""
    if not are_pairs(pairs, count) or len(pairs) != count - 1:
        raise BadTree("these are no pairs, one fewer than places")
    if greatest_state(lot_masks(web_book(count, pairs, 0))) != (1 << count) - 1:
        raise BadTree("these pairs do not join all places")


def all_but_one(near):
    """The ascending tuple of the lots that leave one of these places out, of () where there is none."""
    if not near:
        return ((),)
    return tuple(sorted([(*near[:at], *near[at + 1 :]) for at in range(len(near))]))


def tree_book(count, pairs):
    """The least book of a tree whose places may be taken once all but one beside them have been."""
    check_count(count)
    check_tree(count, pairs)
    return least_book(tuple([all_but_one(near) for near in places_beside(count, pairs)]))


def reach_book(count, pairs, place):
    """The least book by which a place is come to first, each other one from one beside it."""
    check_count(count)
    check_pairs(pairs, count)
    if not is_integer(place) or not 0 <= place < count:
        raise BadDeed("this is no place")
    return least_book(web_book(count, pairs, place))


def is_point(thing):
    """Whether thing is a tuple of two integers that are not too far out."""
    if type(thing) != tuple or len(thing) != 2:
        return False
    return all([is_integer(part) and -FARTHEST <= part <= FARTHEST for part in thing])


def check_points(points):
    """Raise BadPoints for what is no tuple of one to seven unlike points."""
    if type(points) != tuple or not 1 <= len(points) <= MOST_POINTS:
        raise BadPoints(f"this is no tuple of one to {MOST_POINTS} points")
    if not all([is_point(point) for point in points]) or len(set(points)) != len(points):
        raise BadPoints("these are no unlike points")


def turns_left(point, first, second):
    """Whether, seen from the point, the second lies less than half a turn to the left of the first."""
    east, north = first[0] - point[0], first[1] - point[1]
    other_east, other_north = second[0] - point[0], second[1] - point[1]
    area = east * other_north - north * other_east
    return area > 0 or (area == 0 and east * other_east + north * other_north > 0)


def is_outer(point, others):
    """Whether a straight line has the point alone on the one side and all others on the other."""
    if not others:
        return True
    # It has just if all others are seen from the point within less than half a turn.
    return any([all([turns_left(point, first, second) for second in others]) for first in others])


def outer_among(points, left):
    """The ascending list of the indexes of the outer ones of the points that are left."""
    found = []
    for index in left:
        others = [points[other] for other in left if other != index]
        if is_outer(points[index], others):
            found.append(index)
    return found


def outer_book(points):
    """The least book by which a point may be taken if it is an outer one of those still there."""
    check_points(points)
    every = (1 << len(points)) - 1
    found = {0: True}
    # Each set of points that have been taken stands behind those that it is come to from.
    for taken in range(every):
        if taken in found:
            for index in outer_among(points, deeds_of(every ^ taken)):
                found[taken | (1 << index)] = True
    return book_of_family(len(points), sorted(found))


def check_left(points, left):
    """Raise BadSet for what is no ascending tuple of one or more indexes of points."""
    if not is_deed_set(left, len(points)) or not left:
        raise BadSet("these are no indexes of points")


def outer_points(points, left):
    """The ascending list of the indexes of the outer ones of the points that are left."""
    check_points(points)
    check_left(points, left)
    return outer_among(points, left)
