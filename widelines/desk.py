"""A desk: it keeps a line and a rule, is told rows and answers each with a text."""

from widelines.changes import changed_line, changed_rule, is_change, other_side, turned_about
from widelines.errors import NoRow, NoText
from widelines.lines import is_exact
from widelines.marks import mark_lengths, sum_of
from widelines.measuring import line_length
from widelines.numbers import is_below, times
from widelines.outlines import outline
from widelines.putback import is_plain
from widelines.shapes import in_area
from widelines.texts import fraction_text, line_text, read_fraction, read_line, read_place, read_rule, rule_text
from widelines.turning import ring_sum
from widelines.widening import widened

MARKS_WORDS = (4, 6, 8, 10)


class Desk:
    def __init__(self, line_words, rule_words):
        line = read_line(line_words)
        rule = read_rule(rule_words)
        if not is_exact(line):
            raise NoText(0)
        self.line = line
        self.rule = rule

    def say(self, row):
        words = row.split(" ")
        change = (words[0],) + tuple([read_fraction(word) for word in words[1:]])
        if is_change(change):
            return self.become(changed_line(change, self.line), changed_rule(change, self.rule))
        if row == "turn":
            return self.become(turned_about(self.line), other_side(self.rule))
        if len(words) == 1:
            return answer_to_word(row, self.line, self.rule)
        if words[0] == "in":
            return answer_to_in(words, self.line, self.rule)
        return answer_to_marks(words, self.line)

    def become(self, line, rule):
        self.line = line
        self.rule = rule
        return "ok"


def answer_to_word(word, line, rule):
    if word == "shapes":
        return str(len(widened(line, rule)))
    if word == "area":
        return fraction_text(ring_sum(outline(widened(line, rule))))
    if word == "rings":
        return rings_answer(outline(widened(line, rule)))
    if word == "length":
        return fraction_text(line_length(line))
    if word == "line":
        return line_text(line)
    if word == "rule":
        return rule_text(rule)
    if word == "back":
        return yes_or_no(is_plain(line, rule))
    raise NoRow("no such row")


def rings_answer(rings):
    return " ".join([str(many) for many in [len(rings)] + [len(ring) for ring in rings]])


def yes_or_no(truth):
    return "yes" if truth else "no"


def answer_to_in(words, line, rule):
    one = read_place(words[1])
    if len(words) != 2 or one is None:
        raise NoRow("in wants one place")
    return yes_or_no(in_area(widened(line, rule), one))


def answer_to_marks(words, line):
    given = [read_fraction(word) for word in words[1:]]
    if words[0] != "marks" or len(words) not in MARKS_WORDS or None in given:
        raise NoRow("no such row")
    offset = given[0]
    pattern = tuple(given[1:])
    if not is_pattern_with(pattern, offset):
        raise NoRow("marks wants an offset and a pattern")
    marks = mark_lengths(line, pattern, offset)
    if len(marks) == 0:
        return "-"
    return " ".join([fraction_text(begin) + ":" + fraction_text(end) for begin, end in marks])


def is_pattern_with(pattern, offset):
    if not all([is_below((0, 1), one) for one in pattern]):
        return False
    return not is_below(offset, (0, 1)) and is_below(offset, times(sum_of(pattern), (100, 1)))
