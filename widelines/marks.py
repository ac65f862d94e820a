"""Parts of exact lines, and marks along them by a pattern: a mark's length, a gap's, and so on by turns."""

from widelines.errors import TooMany
from widelines.measuring import line_length, place_at, stations
from widelines.numbers import is_below, less, plus, times

MOST_MARKS = 200


def part_of(line, begin, end):
    told = [place_at(line, begin)]
    for one, station in zip(line[1], stations(line)):
        if is_below(begin, station) and is_below(station, end):
            told.append(one)
    told.append(place_at(line, end))
    return (False, tuple(told))


def mark_lengths(line, pattern, offset):
    whole = line_length(line)
    told = []
    begin = first_begin(pattern, offset)
    number = 0
    while is_below(begin, whole):
        end = plus(begin, pattern[number])
        if number % 2 == 0 and is_below((0, 1), end):
            told.append((greater_of(begin, (0, 1)), lesser_of(end, whole)))
        # Refused here, not behind the last one: there may be more than anybody could go along.
        if len(told) > MOST_MARKS:
            raise TooMany("marks")
        begin = end
        number = (number + 1) % len(pattern)
    return told


def first_begin(pattern, offset):
    # Whole patterns ahead of the line have no mark on it.
    size = sum_of(pattern)
    passed = offset[0] * size[1] // (offset[1] * size[0])
    return less(times(size, (passed, 1)), offset)


def sum_of(fractions):
    told = (0, 1)
    for one in fractions:
        told = plus(told, one)
    return told


def greater_of(one, other):
    return other if is_below(one, other) else one


def lesser_of(one, other):
    return one if is_below(one, other) else other


def marks_of(line, pattern, offset):
    return [part_of(line, begin, end) for begin, end in mark_lengths(line, pattern, offset)]
