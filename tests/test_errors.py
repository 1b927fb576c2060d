"""The error classes of the interface."""

import inspect
import unittest

from manycounts import errors
from manycounts.errors import WebError

OF_WORDS = (
    "NoWeb",
    "TooMany",
    "NoSuch",
    "NoText",
    "NoOrder",
    "NoPoint",
    "NoNumber",
    "NoPlaces",
    "NoDrawing",
    "NotJoined",
    "NoRow",
    "NoName",
)
OF_A_VALUE = (("NoTie", "at"), ("NotApart", "point"), ("NotPlane", "lands"))


class ErrorClasses(unittest.TestCase):
    def test_web_error_stands_straight_under_value_error(self):
        self.assertEqual(WebError.__bases__, (ValueError,))

    def test_each_stands_straight_under_web_error(self):
        names = list(OF_WORDS) + [name for name, value in OF_A_VALUE]
        self.assertEqual(len(set(names)), 15)
        for name in names:
            with self.subTest(name=name):
                self.assertEqual(getattr(errors, name).__bases__, (WebError,))

    def test_there_are_no_other_classes(self):
        told = {name for name, thing in vars(errors).items() if inspect.isclass(thing)}
        wanted = set(OF_WORDS) | {name for name, value in OF_A_VALUE} | {"WebError"}
        self.assertEqual(told, wanted)

    def test_made_of_words_or_of_nothing(self):
        for name in OF_WORDS + ("WebError",):
            with self.subTest(name=name):
                made = getattr(errors, name)
                self.assertIsInstance(made(), WebError)
                self.assertEqual(str(made("some words")), "some words")

    def test_made_of_a_value_that_bears_its_name(self):
        for name, value in OF_A_VALUE:
            for number in (0, 1, 7, 10**30):
                with self.subTest(name=name, number=number):
                    made = getattr(errors, name)
                    self.assertEqual(getattr(made(number), value), number)
                    self.assertEqual(getattr(made(**{value: number}), value), number)

    def test_each_is_taken_as_itself_and_as_any_refusal(self):
        for name in OF_WORDS:
            made = getattr(errors, name)
            for taken in (made, WebError, ValueError):
                with self.subTest(name=name, taken=taken), self.assertRaises(taken):
                    raise made("some words")


if __name__ == "__main__":
    unittest.main()
