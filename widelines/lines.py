"""Lines and rules: (closed, places) and (half, side, ending, joining, bound)."""

from widelines.numbers import is_below, is_fraction, root
from widelines.places import is_place, squared
from widelines.straights import goes_on, neighbours

SIDES = ("both", "left", "right")
ENDINGS = ("cut", "square", "round")
JOININGS = ("cut", "pointed", "round")


def is_line(thing):
    if not isinstance(thing, tuple) or len(thing) != 2 or not isinstance(thing[0], bool):
        return False
    return are_places(thing) and goes_somewhere(thing) and turns_everywhere(thing)


def are_places(thing):
    if not isinstance(thing[1], tuple):
        return False
    fewest = 3 if thing[0] else 2
    most = 8 if thing[0] else 9
    if len(thing[1]) < fewest or len(thing[1]) > most:
        return False
    return all([is_place(one) for one in thing[1]])


def goes_somewhere(line):
    return all([a != b for a, b in pieces(line)])


def turns_everywhere(line):
    for one, other in neighbours(pieces(line), line[0]):
        if goes_on(one[0], one[1], other[1]):
            return False
    return True


def is_rule(thing):
    if not isinstance(thing, tuple) or len(thing) != 5:
        return False
    if not is_fraction(thing[0]) or not is_fraction(thing[4]):
        return False
    if thing[1] not in SIDES or thing[2] not in ENDINGS or thing[3] not in JOININGS:
        return False
    return is_below((0, 1), thing[0]) and not is_below(thing[4], (1, 1))


def pieces(line):
    return tuple(neighbours(line[1], line[0]))


def lengths(line):
    return tuple([root(squared(a, b)) for a, b in pieces(line)])


def is_exact(line):
    return None not in lengths(line)
