"""Places: (x, y, d) in lowest terms with d from 1 on, at the coordinates x / d and y / d."""

from widelines.numbers import fraction, is_lowest, lowest


def is_place(thing):
    return is_lowest(thing, 3)


def place(x, y):
    return lowest((x[0] * y[1], y[0] * x[1], x[1] * y[1]))


def across(one):
    return fraction(one[0], one[2])


def up(one):
    return fraction(one[1], one[2])


def is_lesser(one, other):
    here = one[0] * other[2]
    there = other[0] * one[2]
    if here != there:
        return here < there
    return one[1] * other[2] < other[1] * one[2]


def sign(number):
    if number > 0:
        return 1
    if number < 0:
        return -1
    return 0


def turn(a, b, c):
    # The area of the triangle a, b, c, twice and with a sign, times the three bottoms:
    # these are above nought, so that they leave the sign as it is.
    spread = a[0] * (b[1] * c[2] - c[1] * b[2])
    spread = spread - a[1] * (b[0] * c[2] - c[0] * b[2])
    spread = spread + a[2] * (b[0] * c[1] - c[0] * b[1])
    return sign(spread)


def is_on(a, b, one):
    if turn(a, b, one) != 0:
        return False
    # Along a straight line places rise or fall all the way, so the lesser end bounds them.
    if is_lesser(a, b):
        return not is_lesser(one, a) and not is_lesser(b, one)
    return not is_lesser(one, b) and not is_lesser(a, one)


def squared(one, other):
    wide = one[0] * other[2] - other[0] * one[2]
    high = one[1] * other[2] - other[1] * one[2]
    bottom = one[2] * other[2]
    return fraction(wide * wide + high * high, bottom * bottom)
