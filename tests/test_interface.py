"""The interface: every name with its arguments as they stand there."""

import unittest
from importlib import import_module
from inspect import Parameter, isclass, isfunction, signature

FUNCTIONS = {
    "numbers": {
        "is_fraction": ("thing",),
        "fraction": ("top", "bottom"),
        "plus": ("one", "other"),
        "less": ("one", "other"),
        "times": ("one", "other"),
        "is_below": ("one", "other"),
        "root": ("one",),
    },
    "places": {
        "is_place": ("thing",),
        "place": ("x", "y"),
        "across": ("one",),
        "up": ("one",),
        "is_lesser": ("one", "other"),
        "is_on": ("a", "b", "one"),
        "turn": ("a", "b", "c"),
        "squared": ("one", "other"),
    },
    "lines": {
        "is_line": ("thing",),
        "is_rule": ("thing",),
        "is_exact": ("line",),
        "pieces": ("line",),
        "lengths": ("line",),
    },
    "shapes": {
        "is_shape": ("thing",),
        "shape_of": ("some",),
        "cut_off": ("shape", "a", "b"),
        "twelve": ("one", "half"),
        "belongs": ("shape", "one"),
        "is_within": ("shape", "one"),
        "in_area": ("shapes", "one"),
    },
    "widening": {
        "widened": ("line", "rule"),
    },
    "placepapers": {
        "lets_place": ("shapes", "one", "thing"),
        "place_paper": ("shapes", "one"),
    },
    "turning": {
        "are_rings": ("thing",),
        "turning": ("rings", "one"),
        "ring_sum": ("rings",),
    },
    "outlines": {
        "bare_parts": ("shapes",),
        "outline": ("shapes",),
    },
    "outlinechecker": {
        "lets_outline": ("shapes", "thing"),
    },
    "meeting": {
        "lets_two": ("shapes", "others", "thing"),
        "two_paper": ("shapes", "others"),
    },
    "putback": {
        "is_plain": ("line", "rule"),
        "put_back": ("rings", "rule"),
    },
    "measuring": {
        "line_length": ("line",),
        "place_at": ("line", "length"),
        "bounds": ("line",),
    },
    "marks": {
        "part_of": ("line", "begin", "end"),
        "mark_lengths": ("line", "pattern", "offset"),
        "marks_of": ("line", "pattern", "offset"),
    },
    "joining": {
        "split": ("line", "length"),
        "joined": ("one", "other"),
    },
    "changes": {
        "is_change": ("thing",),
        "changed_place": ("change", "one"),
        "changed_line": ("change", "line"),
        "changed_rule": ("change", "rule"),
        "changed_shape": ("change", "shape"),
        "changed_rings": ("change", "rings"),
        "turned_about": ("line",),
        "other_side": ("rule",),
    },
    "crossings": {
        "common": ("one", "other"),
        "crossings": ("line",),
    },
    "texts": {
        "fraction_text": ("one",),
        "place_text": ("one",),
        "line_text": ("line",),
        "rule_text": ("rule",),
        "read_line": ("text",),
        "read_rule": ("text",),
    },
}

CLASSES = {
    "errors": {
        "NoPaper": ("word", "at"),
        "NoOutline": ("word", "at"),
        "NoJoin": ("word",),
        "TooMany": ("word",),
        "NoText": ("word",),
    },
    "desk": {
        "Desk": ("line_words", "rule_words"),
    },
}

METHODS = {
    "desk": {
        "Desk": {"say": ("self", "row")},
    },
}


class TestInterface(unittest.TestCase):
    def check(self, called, names):
        told = signature(called).parameters.values()
        self.assertEqual(tuple(one.name for one in told), names)
        for one in told:
            self.assertIs(one.default, Parameter.empty)
            self.assertEqual(one.kind, Parameter.POSITIONAL_OR_KEYWORD)

    def test_functions(self):
        for module, functions in FUNCTIONS.items():
            held = vars(import_module("widelines." + module))
            for name, names in functions.items():
                self.assertTrue(isfunction(held[name]), name)
                self.check(held[name], names)

    def test_classes(self):
        for module, classes in CLASSES.items():
            held = vars(import_module("widelines." + module))
            for name, names in classes.items():
                self.assertTrue(isclass(held[name]), name)
                self.check(held[name], names)

    def test_methods(self):
        for module, classes in METHODS.items():
            held = vars(import_module("widelines." + module))
            for name, methods in classes.items():
                for method, names in methods.items():
                    self.assertTrue(isfunction(vars(held[name])[method]), method)
                    self.check(vars(held[name])[method], names)


if __name__ == "__main__":
    unittest.main()
