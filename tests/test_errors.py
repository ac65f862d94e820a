"""Point 2 and the interface, row errors: the refusals, their fields and where they stand."""

import unittest

from widelines.errors import NoJoin, NoOutline, NoPaper, NoRow, NoText, TooMany, WideError

OF_WORD_AND_PLACE = (NoPaper, NoOutline)
OF_WORD = (NoJoin, TooMany, NoText)
OF_TEXT = (NoRow,)
REFUSALS = OF_WORD_AND_PLACE + OF_WORD + OF_TEXT

PLAIN_THINGS = (
    "shape",
    "",
    0,
    -7,
    10**3999,
    -(10**3999),
    True,
    False,
    None,
    (),
    [],
    ("in", 3),
    ["out", [1, (2, None)]],
    (10**3999, [10**3999]),
)


class Touchy:
    """Fails wherever it is looked at."""

    def looked_at(self, *others):
        raise AssertionError("a refusal looks at what it is made of")

    __eq__ = __ne__ = __lt__ = __gt__ = __hash__ = looked_at
    __bool__ = __len__ = __iter__ = __getitem__ = __contains__ = looked_at
    __str__ = __repr__ = __format__ = __int__ = __index__ = __copy__ = __deepcopy__ = looked_at


class TestFields(unittest.TestCase):
    def test_word_and_place_are_the_very_things(self):
        for refusal in OF_WORD_AND_PLACE:
            for word in PLAIN_THINGS:
                for at in PLAIN_THINGS:
                    made = refusal(word, at)
                    self.assertIs(made.word, word)
                    self.assertIs(made.at, at)

    def test_word_is_the_very_thing(self):
        for refusal in OF_WORD:
            for word in PLAIN_THINGS:
                self.assertIs(refusal(word).word, word)

    def test_fields_stay_apart(self):
        for refusal in OF_WORD_AND_PLACE:
            first = refusal("shape", 0)
            second = refusal("place", 5)
            self.assertEqual((first.word, first.at), ("shape", 0))
            self.assertEqual((second.word, second.at), ("place", 5))

    def test_lists_are_kept_as_they_are(self):
        for refusal in OF_WORD_AND_PLACE:
            word, at = [1, [2]], [3]
            made = refusal(word, at)
            self.assertEqual((word, at), ([1, [2]], [3]))
            word.append(4)
            self.assertEqual(made.word, [1, [2], 4])

    def test_fields_are_not_looked_at(self):
        for refusal in OF_WORD_AND_PLACE:
            word, at = Touchy(), Touchy()
            made = refusal(word, at)
            self.assertTrue(made.word is word and made.at is at)
        for refusal in OF_WORD:
            word = Touchy()
            self.assertTrue(refusal(word).word is word)

    def test_made_of_a_text(self):
        for refusal in (WideError,) + OF_TEXT:
            text = "no such row: " + refusal.__name__
            made = refusal(text)
            self.assertIs(made.args[0], text)
            self.assertEqual(str(made), text)

    def test_made_of_as_many_as_told(self):
        for refusal in OF_WORD_AND_PLACE:
            for fields in ((), ("shape",), ("shape", 0, 0)):
                with self.assertRaises(TypeError):
                    refusal(*fields)
        for refusal in OF_WORD:
            for fields in ((), ("shape", 0)):
                with self.assertRaises(TypeError):
                    refusal(*fields)


class TestKinds(unittest.TestCase):
    def test_all_stand_under_the_wide_error(self):
        self.assertTrue(issubclass(WideError, ValueError))
        for refusal in REFUSALS:
            self.assertTrue(issubclass(refusal, WideError))
            self.assertTrue(issubclass(refusal, ValueError))
            self.assertFalse(issubclass(WideError, refusal))

    def test_none_stands_under_another_one(self):
        for refusal in REFUSALS:
            for other in REFUSALS:
                self.assertEqual(issubclass(refusal, other), refusal.__name__ == other.__name__)

    def test_no_other_error_of_pythons_own(self):
        for refusal in (WideError,) + REFUSALS:
            for other in (TypeError, LookupError, ArithmeticError, RuntimeError, UnicodeError):
                self.assertFalse(issubclass(refusal, other))

    def test_names(self):
        names = [refusal.__name__ for refusal in (WideError,) + REFUSALS]
        wanted = ["WideError", "NoPaper", "NoOutline", "NoJoin", "TooMany", "NoText", "NoRow"]
        self.assertEqual(names, wanted)

    def test_raised_and_taken(self):
        made = [NoPaper("shape", 0), NoOutline("edge", 2), NoJoin("many")]
        made += [TooMany("marks"), NoText(4), NoRow("what"), WideError("what")]
        for error in made:
            for kind in (type(error), WideError, ValueError):
                with self.assertRaises(kind) as taken:
                    raise error
                self.assertIs(taken.exception, error)


if __name__ == "__main__":
    unittest.main()
