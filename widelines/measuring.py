"""Lengths of lines: exact ones of exact lines, bounds of any."""

from widelines.lines import lengths, pieces
from widelines.numbers import fraction, is_below, less, plus, root_below
from widelines.places import squared
from widelines.straights import between


def stations(line):
    told = [(0, 1)]
    for length in lengths(line):
        told.append(plus(told[-1], length))
    return told


def line_length(line):
    return stations(line)[-1]


def place_at(line, length):
    rows = stations(line)
    number = 0
    while is_below(rows[number + 1], length):
        number = number + 1
    piece = pieces(line)[number]
    gone = less(length, rows[number])
    whole = less(rows[number + 1], rows[number])
    return between(piece[0], piece[1], fraction(gone[0] * whole[1], gone[1] * whole[0]))


def bounds(line):
    thousandths = [whole_thousandths(a, b) for a, b in pieces(line)]
    low = sum(thousandths)
    return (fraction(low, 1000), fraction(low + len(thousandths), 1000))


def whole_thousandths(a, b):
    # Rounding the square down first changes nothing: no square of a whole number lies between.
    square = squared(a, b)
    return root_below(square[0] * 1000000 // square[1])
