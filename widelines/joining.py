"""Open lines split at a length, and joined."""

from widelines.errors import NoJoin
from widelines.marks import part_of
from widelines.measuring import line_length
from widelines.straights import goes_on

MOST_PLACES = 9


def split(line, length):
    return (part_of(line, (0, 1), length), part_of(line, length, line_length(line)))


def joined(one, other):
    ahead = one[1]
    behind = other[1]
    if ahead[-1] != behind[0]:
        raise NoJoin("place")
    if goes_on(ahead[-2], ahead[-1], behind[1]):
        ahead = ahead[:-1]
    told = ahead + behind[1:]
    if len(told) > MOST_PLACES:
        raise NoJoin("many")
    return (False, told)
