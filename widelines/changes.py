"""Changes: moved, turned by a quarter, mirrored, scaled; and lines turned about, rules with their sides exchanged."""

from widelines.numbers import is_below, is_fraction, lowest, plus, times
from widelines.places import across, place, up
from widelines.shapes import shape_of
from widelines.straights import ordered_rings

OTHER_SIDES = {"both": "both", "left": "right", "right": "left"}


def is_change(thing):
    if not isinstance(thing, tuple) or len(thing) == 0:
        return False
    if thing[0] == "quarter" or thing[0] == "mirror":
        return len(thing) == 1
    if thing[0] == "move":
        return len(thing) == 3 and is_fraction(thing[1]) and is_fraction(thing[2])
    if thing[0] == "scale":
        return len(thing) == 2 and is_fraction(thing[1]) and is_below((0, 1), thing[1])
    return False


def changed_place(change, one):
    if change[0] == "move":
        return place(plus(across(one), change[1]), plus(up(one), change[2]))
    if change[0] == "quarter":
        return (-one[1], one[0], one[2])
    if change[0] == "mirror":
        return (-one[0], one[1], one[2])
    factor = change[1]
    return lowest((one[0] * factor[0], one[1] * factor[0], one[2] * factor[1]))


def changed_places(change, some):
    return tuple([changed_place(change, one) for one in some])


def changed_line(change, line):
    return (line[0], changed_places(change, line[1]))


def changed_rule(change, rule):
    if change[0] == "scale":
        return (times(rule[0], change[1]),) + rule[1:]
    if change[0] == "mirror":
        return other_side(rule)
    return rule


def changed_shape(change, shape):
    return shape_of(changed_places(change, shape))


def changed_rings(change, rings):
    return ordered_rings([changed_ring(change, ring) for ring in rings])


def changed_ring(change, ring):
    row = changed_places(change, ring)
    # Mirrored it would go round the other way about.
    return tuple(reversed(row)) if change[0] == "mirror" else row


def turned_about(line):
    if line[0]:
        return (True, line[1][:1] + tuple(reversed(line[1][1:])))
    return (False, tuple(reversed(line[1])))


def other_side(rule):
    return (rule[0], OTHER_SIDES[rule[1]]) + rule[2:]
