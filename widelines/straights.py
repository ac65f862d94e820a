"""What several modules need: things in a row, their order, and straight lines as (x, y, d).

A place (px, py, pd) lies to the left of a straight line where x * px + y * py + d * pd is above
nought, to the right where it is below, and on it where it is nought.
"""

from widelines.numbers import lowest
from widelines.places import is_lesser, sign, turn


def neighbours(row, closed):
    if closed:
        return list(zip(row, row[1:] + row[:1]))
    return list(zip(row, row[1:]))


def edges(corners):
    return neighbours(corners, True)


def begun_at(row, number):
    return row[number:] + row[:number]


def begun_anywhere(row):
    return [begun_at(row, number) for number in range(len(row))]


# Python's own way of sorting wants a key, and of places of unlike bottoms there is no small one.


def in_order(some, goes_ahead):
    if len(some) < 2:
        return list(some)
    middle = len(some) // 2
    return merged(in_order(some[:middle], goes_ahead), in_order(some[middle:], goes_ahead), goes_ahead)


def merged(ones, others, goes_ahead):
    told = []
    taken = 0
    for one in ones:
        while taken < len(others) and goes_ahead(others[taken], one):
            told.append(others[taken])
            taken = taken + 1
        told.append(one)
    return told + others[taken:]


def row_goes_ahead(one, other):
    for here, there in zip(one, other):
        if here != there:
            return is_lesser(here, there)
    return len(one) < len(other)


def ordered_rings(rings):
    return tuple(in_order([begun_least(ring) for ring in rings], row_goes_ahead))


def begun_least(ring):
    best = ring
    for number in range(1, len(ring)):
        row = begun_at(ring, number)
        if row_goes_ahead(row, best):
            best = row
    return best


def span(a, b):
    return (a, b) if is_lesser(a, b) else (b, a)


def goes_on(a, b, c):
    # Along a straight line places rise or fall all the way, unless it is gone back.
    return turn(a, b, c) == 0 and is_lesser(a, b) == is_lesser(b, c)


def upright(one, other):
    # Places and straight lines are each other's likeness: this is the line through two places
    # as it is the place on two lines.
    return (
        one[1] * other[2] - one[2] * other[1],
        one[2] * other[0] - one[0] * other[2],
        one[0] * other[1] - one[1] * other[0],
    )


def straight(a, b):
    return upright(a, b)


def side_of(line, one):
    return sign(line[0] * one[0] + line[1] * one[1] + line[2] * one[2])


def crossing(line, other):
    return lowest(upright(line, other))


def between(a, b, share):
    # At a for a share of nought, at b for one of 1.
    near = b[2] * (share[1] - share[0])
    far = a[2] * share[0]
    return lowest((a[0] * near + b[0] * far, a[1] * near + b[1] * far, a[2] * b[2] * share[1]))
