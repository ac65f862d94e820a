"""Texts of fractions, places, lines and rules, and what is read from such."""

from widelines.errors import NoText
from widelines.lines import is_line, is_rule
from widelines.numbers import is_fraction
from widelines.places import across, place, up

FIGURES = "0123456789"
MOST_FIGURES = 4
TENTH_PLACE = 10

# A rule is read part by part into this one, so that each part is looked at by itself.
ANY_RULE = ((1, 1), "both", "cut", "cut", (1, 1))
FRACTION_PARTS = (0, 4)


def fraction_text(one):
    if one[1] == 1:
        return whole_text(one[0])
    return whole_text(one[0]) + "/" + whole_text(one[1])


def whole_text(number):
    # Python writes no number of more than some thousand figures at once.
    rest = abs(number)
    told = ""
    while rest >= 10 ** 60:
        told = str(rest % 10 ** 60).zfill(60) + told
        rest = rest // 10 ** 60
    return ("-" if number < 0 else "") + str(rest) + told


def place_text(one):
    return fraction_text(across(one)) + "," + fraction_text(up(one))


def line_text(line):
    return " ".join(["closed" if line[0] else "open"] + [place_text(one) for one in line[1]])


def rule_text(rule):
    return " ".join(["wide", fraction_text(rule[0]), rule[1], rule[2], rule[3], fraction_text(rule[4])])


def read_figures(text):
    if text == "" or len(text) > MOST_FIGURES:
        return None
    if not all([figure in FIGURES for figure in text]):
        return None
    if text[0] == "0" and text != "0":
        return None
    return int(text)


def read_whole(text):
    if not text.startswith("-"):
        return read_figures(text)
    number = read_figures(text[1:])
    return None if number is None or number == 0 else -number


def read_fraction(word):
    parts = word.split("/")
    top = read_whole(parts[0])
    if len(parts) == 1:
        return None if top is None else (top, 1)
    bottom = read_figures(parts[1])
    if len(parts) > 2 or bottom == 1 or not is_fraction((top, bottom)):
        return None
    return (top, bottom)


def read_place(word):
    parts = [read_fraction(part) for part in word.split(",")]
    if len(parts) != 2 or None in parts:
        return None
    return place(parts[0], parts[1])


def read_line(text):
    words = text.split(" ")
    if words[0] != "open" and words[0] != "closed":
        raise NoText(0)
    closed = words[0] == "closed"
    places = read_places(words)
    if len(places) < (3 if closed else 2):
        raise NoText(len(words))
    line = (closed, tuple(places))
    if not is_line(line):
        raise NoText(len(words) - 1)
    return line


def read_places(words):
    told = []
    for number in range(1, len(words)):
        one = read_place(words[number])
        if one is None or number == TENTH_PLACE:
            raise NoText(number)
        told.append(one)
    return told


def read_rule(text):
    words = text.split(" ")
    if words[0] != "wide":
        raise NoText(0)
    rule = ANY_RULE
    for number in range(1, len(words)):
        rule = with_part(rule, number - 1, words[number])
        if not is_rule(rule):
            raise NoText(number)
    if len(words) <= len(rule):
        raise NoText(len(words))
    return rule


def with_part(rule, number, word):
    # Behind the last part it is put on, and makes a row that is no rule.
    part = read_fraction(word) if number in FRACTION_PARTS else word
    return rule[:number] + (part,) + rule[number + 1:]
