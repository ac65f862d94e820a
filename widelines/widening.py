"""Exact lines made wide by a rule: strips, joins and ends.

A way is (x, y, d) like a place: what is added to a place. A stroke is a piece with two ways of the
length half: (a, b, along, athwart), along its direction and a quarter to the left of it.
"""

from widelines.lines import pieces
from widelines.numbers import is_below, lowest, root, times
from widelines.places import sign, squared
from widelines.shapes import cut_off, shape_of, twelve
from widelines.straights import crossing, neighbours, straight


def widened(line, rule):
    half = rule[0]
    strokes = [stroke(a, b, half) for a, b in pieces(line)]
    told = [strip(one, rule[1]) for one in strokes]
    for one, other in neighbours(strokes, line[0]):
        told.append(join_at(one, other, rule))
    if not line[0]:
        first = strokes[0]
        last = strokes[-1]
        told.append(end_at(first[0], first, turned_about(first[2]), rule))
        told.append(end_at(last[1], last, last[2], rule))
    return tuple([shape for shape in told if shape is not None])


def stroke(a, b, half):
    length = root(squared(a, b))
    share = half[0] * length[1]
    x = (b[0] * a[2] - a[0] * b[2]) * share
    y = (b[1] * a[2] - a[1] * b[2]) * share
    along = lowest((x, y, a[2] * b[2] * half[1] * length[0]))
    return (a, b, along, turned_left(along))


def turned_left(way):
    return (-way[1], way[0], way[2])


def turned_right(way):
    return (way[1], -way[0], way[2])


def turned_about(way):
    return (-way[0], -way[1], way[2])


def moved(one, way):
    x = one[0] * way[2] + way[0] * one[2]
    y = one[1] * way[2] + way[1] * one[2]
    return lowest((x, y, one[2] * way[2]))


def strip(one, side):
    return shape_of(strip_corners(one[0], one, side) + strip_corners(one[1], one, side))


def strip_corners(spot, one, side):
    left = spot if side == "right" else moved(spot, one[3])
    right = spot if side == "left" else moved(spot, turned_about(one[3]))
    return [left, right]


def bend_of(one, other):
    return sign(one[2][0] * other[2][1] - one[2][1] * other[2][0])


def join_at(one, other, rule):
    bend = bend_of(one, other)
    if bend == 0:
        return turning_back(one, rule)
    # The gap of a turn lies on its outer side: to the left there is none where it goes left.
    if rule[1] == ("left" if bend == 1 else "right"):
        return None
    if rule[3] == "round":
        return round_join(one, other, bend, rule)
    return cornered_join(one, other, bend, rule)


def turning_back(one, rule):
    if rule[3] != "round":
        return None
    return part_ahead(one[1], one[2], rule[0])


def outer_corner(spot, one, bend):
    return moved(spot, turned_about(one[3]) if bend == 1 else one[3])


def tip_at(one, other, bend):
    begin = outer_corner(one[1], one, bend)
    end = outer_corner(one[1], other, bend)
    return crossing(straight(begin, moved(begin, one[2])), straight(end, moved(end, other[2])))


def round_join(one, other, bend, rule):
    spot = one[1]
    begin = outer_corner(spot, one, bend)
    end = outer_corner(spot, other, bend)
    whole = twelve(spot, rule[0])
    if bend == 1:
        return cut_off(cut_off(whole, spot, begin), end, spot)
    return cut_off(cut_off(whole, spot, end), begin, spot)


def cornered_join(one, other, bend, rule):
    spot = one[1]
    corners = [spot, outer_corner(spot, one, bend), outer_corner(spot, other, bend)]
    if rule[3] == "pointed":
        tip = tip_at(one, other, bend)
        if is_near(spot, tip, times(rule[4], rule[0])):
            corners.append(tip)
    return shape_of(corners)


def is_near(one, other, distance):
    return not is_below(times(distance, distance), squared(one, other))


def end_at(spot, one, way, rule):
    if rule[2] == "cut":
        return None
    if rule[2] == "square":
        corners = strip_corners(spot, one, rule[1])
        return shape_of(corners + [moved(corner, way) for corner in corners])
    part = part_ahead(spot, way, rule[0])
    beyond = moved(spot, one[2])
    if rule[1] == "left":
        return cut_off(part, spot, beyond)
    if rule[1] == "right":
        return cut_off(part, beyond, spot)
    return part


def part_ahead(spot, way, half):
    return cut_off(twelve(spot, half), spot, moved(spot, turned_right(way)))
