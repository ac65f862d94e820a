"""Fractions: (n, d) in lowest terms with d from 1 on."""


def is_whole(thing):
    # Python counts the truths among its ints; here True is no 1.
    return isinstance(thing, int) and not isinstance(thing, bool)


def divisor_of_two(one, other):
    greater = abs(one)
    rest = abs(other)
    while rest != 0:
        left_over = greater % rest
        greater = rest
        rest = left_over
    return greater


def divisor(parts):
    shared = 0
    for part in parts:
        shared = divisor_of_two(shared, part)
    return shared


# Fractions and places are alike in this: whole numbers over a bottom, which stands last.
# So both are looked at and made by the same two functions.


def is_lowest(thing, size):
    if not isinstance(thing, tuple) or len(thing) != size:
        return False
    if not all([is_whole(part) for part in thing]):
        return False
    return thing[-1] >= 1 and divisor(thing) == 1


def lowest(parts):
    shared = divisor(parts)
    if parts[-1] < 0:
        shared = -shared
    return tuple([part // shared for part in parts])


def is_fraction(thing):
    return is_lowest(thing, 2)


def fraction(top, bottom):
    return lowest((top, bottom))


def plus(one, other):
    # What can be taken out of the sum divides both bottoms: so of a great one and a small one it is
    # found among small numbers.
    shared = divisor_of_two(one[1], other[1])
    top = one[0] * (other[1] // shared) + other[0] * (one[1] // shared)
    taken_out = divisor_of_two(top, shared)
    return (top // taken_out, one[1] // shared * (other[1] // taken_out))


def less(one, other):
    return plus(one, (-other[0], other[1]))


def times(one, other):
    return fraction(one[0] * other[0], one[1] * other[1])


def is_below(one, other):
    return one[0] * other[1] < other[0] * one[1]


def above_root(number):
    guess = 1
    rest = number
    while rest > 0:
        guess = guess * 2
        rest = rest // 4
    return guess


def root_below(number):
    # Newton's way falls to the greatest whole number whose square is no more than the number,
    # but only when it begins above it; and of nought it would divide by nought.
    if number == 0:
        return 0
    guess = above_root(number)
    better = (guess + number // guess) // 2
    while better < guess:
        guess = better
        better = (guess + number // guess) // 2
    return guess


def root(one):
    if one[0] < 0:
        return None
    top = root_below(one[0])
    bottom = root_below(one[1])
    # In lowest terms a fraction is a square just where its top and its bottom are.
    if top * top != one[0] or bottom * bottom != one[1]:
        return None
    return (top, bottom)
