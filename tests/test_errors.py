"""Promise 1: all errors, what they stand beneath and what they bear."""

import unittest

from withinshapes import errors

ATTRIBUTES = {
    "BadPays": ("place",),
    "BadShape": ("place",),
    "BadPoint": ("value",),
    "BadDice": ("value",),
    "BadOdds": ("value",),
    "BadGame": ("place",),
    "BadPoly": ("value",),
    "BadText": ("line", "word"),
    "BadDeed": ("place",),
    "BadParameter": ("value",),
    "NoDice": ("odds",),
    "NoRow": (),
    "TooGreat": ("most",),
}


class ErrorsTest(unittest.TestCase):
    def test_the_common_error_is_directly_beneath_value_error(self):
        self.assertEqual(errors.ShapeError.__bases__, (ValueError,))

    def test_each_error_is_directly_beneath_the_common_one(self):
        for name in ATTRIBUTES:
            with self.subTest(name):
                self.assertEqual(getattr(errors, name).__bases__, (errors.ShapeError,))

    def test_there_are_no_other_errors(self):
        found = {name for name, value in vars(errors).items() if isinstance(value, type)}
        self.assertEqual(found, {"ShapeError"} | set(ATTRIBUTES))

    def test_arguments_by_position_are_attributes(self):
        for name, words in ATTRIBUTES.items():
            given = [object() for _ in words]
            error = getattr(errors, name)(*given)
            with self.subTest(name):
                self.assertEqual(vars(error), dict(zip(words, given)))

    def test_arguments_by_name_are_attributes(self):
        for name, words in ATTRIBUTES.items():
            given = {word: object() for word in words}
            error = getattr(errors, name)(**given)
            with self.subTest(name):
                self.assertEqual(vars(error), given)

    def test_any_other_number_of_arguments_is_refused(self):
        for name, words in ATTRIBUTES.items():
            if not words:
                continue
            with self.subTest(name):
                self.assertRaises(TypeError, getattr(errors, name))
                self.assertRaises(TypeError, getattr(errors, name), *range(len(words) + 1))

    def test_they_are_caught_as_value_errors(self):
        for name, words in ATTRIBUTES.items():
            with self.subTest(name), self.assertRaises(ValueError):
                raise getattr(errors, name)(*words)


if __name__ == "__main__":
    unittest.main()
