"""Shapes: the corners of convex areas, gone round to the left, the least one first."""

from widelines.numbers import is_whole, lowest
from widelines.places import is_lesser, is_place, turn
from widelines.straights import crossing, edges, in_order, straight

TWELVE_WAYS = (
    (5, 0), (4, 3), (3, 4), (0, 5), (-3, 4), (-4, 3),
    (-5, 0), (-4, -3), (-3, -4), (0, -5), (3, -4), (4, -3),
)


def is_shape(thing):
    if not isinstance(thing, tuple) or len(thing) < 3:
        return False
    if not all([is_place(one) for one in thing]):
        return False
    return shape_of(thing) == thing


def shape_of(some):
    unlike = {}
    for one in some:
        unlike[one] = True
    row = in_order(list(unlike), is_lesser)
    corners = bow(row)[:-1] + bow(list(reversed(row)))[:-1]
    if len(corners) < 3:
        return None
    return tuple(corners)


def bow(row):
    kept = []
    for one in row:
        while len(kept) > 1 and turn(kept[-2], kept[-1], one) != 1:
            kept.pop()
        kept.append(one)
    return kept


def cut_off(shape, a, b):
    return shape_of(clipped(shape, a, b))


def clipped(corners, a, b):
    # Of corners of no area (one place, a piece) this is right, too: two areas that but touch
    # have such a part in common.
    line = straight(a, b)
    kept = []
    for one, other in edges(corners):
        here = turn(a, b, one)
        if here != -1:
            kept.append(one)
        if here * turn(a, b, other) == -1:
            kept.append(crossing(line, straight(one, other)))
    return kept


def twelve(one, half):
    return shape_of([beside(one, half, way) for way in TWELVE_WAYS])


def beside(one, half, way):
    bottom = 5 * half[1]
    x = one[0] * bottom + half[0] * way[0] * one[2]
    y = one[1] * bottom + half[0] * way[1] * one[2]
    return lowest((x, y, one[2] * bottom))


def belongs(shape, one):
    for a, b in edges(shape):
        if turn(a, b, one) == -1:
            return False
    return True


def is_within(shape, one):
    for a, b in edges(shape):
        if turn(a, b, one) != 1:
            return False
    return True


def in_area(shapes, one):
    for shape in shapes:
        if belongs(shape, one):
            return True
    return False


def is_edge_number(shape, thing):
    return is_whole(thing) and 0 <= thing < len(shape)


def parts_off(shape, number, places):
    edge = edges(shape)[number]
    for one in places:
        if turn(edge[0], edge[1], one) != -1:
            return False
    return True


def parting_edge(shape, places):
    for number in range(len(shape)):
        if parts_off(shape, number, places):
            return number
    return None
