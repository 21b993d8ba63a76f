"""The eighteen refusals: their classes, what they stand under, their fields and their words."""

import unittest

from dotmoor import errors
from dotmoor.errors import DotError, Missing

PLACE = ((1, 2), (-3, 4))

WRONG = {
    "BadPart": {},
    "BadSpot": {"spot": (41, 0)},
    "BadStroke": {"stroke": (1, 2, 1, 2)},
    "BadName": {"name": "Abc"},
    "BadWeight": {"weight": -4},
    "BadEnd": {"end": 2},
    "BadWay": {"way": "none such"},
    "Taken": {"name": "abc"},
    "Full": {"most": 16},
    "Loose": {"spot": (-3, 40)},
    "OnLine": {"place": PLACE},
    "BadText": {"at": 0},
}
LACKING = {
    "NoStroke": {"name": "abc"},
    "NoDrawing": {"name": ""},
    "NoField": {"number": -1},
    "NoPiece": {"piece": ((1, 1), (0, 0))},
    "NoPoint": {"spot": (0, 0)},
    "NothingLeft": {},
}


class Roots(unittest.TestCase):
    def test_stand_straight_under_python_s_own(self):
        self.assertEqual(DotError.__bases__, (ValueError,))
        self.assertEqual(Missing.__bases__, (LookupError,))

    def test_bear_their_words(self):
        self.assertEqual(DotError().word, "DotError")
        self.assertEqual(Missing().word, "Missing")


class Refusals(unittest.TestCase):
    def each(self):
        for base, table in ((DotError, WRONG), (Missing, LACKING)):
            for word, fields in table.items():
                yield base, word, getattr(errors, word), fields

    def test_there_are_eighteen_classes(self):
        classes = [refusal for base, word, refusal, fields in self.each()]
        self.assertEqual(len(set(classes)), 18)

    def test_each_stands_straight_under_its_root(self):
        for base, word, refusal, fields in self.each():
            with self.subTest(word):
                self.assertEqual(refusal.__bases__, (base,))
                self.assertEqual(refusal.__module__, "dotmoor.errors")

    def test_each_bears_its_word_and_fields_by_place(self):
        for base, word, refusal, fields in self.each():
            with self.subTest(word):
                self.bears(refusal(*fields.values()), word, fields)

    def test_each_bears_its_word_and_fields_by_keyword(self):
        for base, word, refusal, fields in self.each():
            with self.subTest(word):
                self.bears(refusal(**fields), word, fields)

    def test_fields_are_the_very_values_handed_in(self):
        for base, word, refusal, fields in self.each():
            for field, value in fields.items():
                with self.subTest(word):
                    self.assertIs(getattr(refusal(value), field), value)

    def bears(self, made, word, fields):
        self.assertEqual(made.word, word)
        self.assertEqual(type(made).__name__, word)
        self.assertEqual(vars(made), {"word": word, **fields})

    def test_each_takes_just_its_fields(self):
        for base, word, refusal, fields in self.each():
            with self.subTest(word):
                with self.assertRaises(TypeError):
                    refusal(*fields.values(), 1)
                with self.assertRaises(TypeError):
                    refusal(**fields, more=1)
                if fields:
                    with self.assertRaises(TypeError):
                        refusal()

    def test_each_is_caught_as_itself_its_root_and_python_s_own(self):
        for base, word, refusal, fields in self.each():
            for caught in (refusal, base, base.__bases__[0]):
                with self.subTest(word=word, caught=caught.__name__):
                    with self.assertRaises(caught):
                        raise refusal(**fields)

    def test_none_is_of_the_other_root(self):
        for base, word, refusal, fields in self.each():
            other = Missing if base is DotError else DotError
            with self.subTest(word):
                self.assertFalse(issubclass(refusal, other))
                self.assertFalse(issubclass(refusal, other.__bases__[0]))

    def test_two_of_a_class_have_nothing_to_do_with_one_another(self):
        one, other = errors.BadSpot((41, 0)), errors.BadSpot((0, 41))
        self.assertEqual((one.spot, other.spot), ((41, 0), (0, 41)))


if __name__ == "__main__":
    unittest.main()
