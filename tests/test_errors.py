"""The classes of errors: what they are made with, and under what they stand."""

import unittest

from allhelms import errors
from tests.tools import Liar, deep

WITH_GIVEN = ["InvalidFraction", "InvalidNumber", "InvalidRow", "InvalidAnswer", "InvalidMachine",
              "InvalidHelm", "InvalidRule", "InvalidStart", "InvalidIndex", "InvalidName",
              "InvalidWish", "InvalidPhrase", "UnknownName", "NotAWorkshop", "NotAZero"]
WITH_INDEX = ["InvalidBends", "InUse", "Broken"]
WITH_NOTHING = ["NotSteady", "NoHelm", "NotTold", "NoughtFirst", "NothingToUndo"]

WHATEVER = [None, True, 0, -1, 10 ** 5000, "", "a text", (), ((1, 1),), [1, [2]], {"a": 1}, object(),
            Liar(), deep(14), ValueError("x")]


class Errors(unittest.TestCase):

    def test_kept_attributes(self):
        for names, attribute in ((WITH_GIVEN, "given"), (WITH_INDEX, "index")):
            for name in names:
                made = getattr(errors, name)
                for value in WHATEVER:
                    with self.subTest(name=name):
                        for error in (made(value), made(**{attribute: value})):
                            self.assertIs(type(error), made)
                            self.assertEqual(list(vars(error)), [attribute])
                            self.assertIs(getattr(error, attribute), value)

    def test_attributes_are_asked_for(self):
        for name in WITH_GIVEN + WITH_INDEX:
            made = getattr(errors, name)
            for arguments, named in (((), {}), ((1, 2), {}), ((), {"other": 1})):
                with self.subTest(name=name), self.assertRaises(TypeError):
                    made(*arguments, **named)

    def test_without_attributes(self):
        for name in WITH_NOTHING + ["HelmError"]:
            with self.subTest(name=name):
                self.assertEqual(vars(getattr(errors, name)()), {})

    def test_bases(self):
        self.assertEqual(errors.HelmError.__bases__, (ValueError,))
        for name in WITH_GIVEN + WITH_INDEX + WITH_NOTHING:
            with self.subTest(name=name):
                made = getattr(errors, name)
                self.assertEqual(made.__bases__, (errors.HelmError,))
                for other in (KeyError, IndexError, LookupError, TypeError, ArithmeticError):
                    self.assertFalse(issubclass(made, other))

    def test_no_others(self):
        found = [name for name, value in vars(errors).items() if isinstance(value, type)]
        self.assertEqual(sorted(found), sorted(WITH_GIVEN + WITH_INDEX + WITH_NOTHING + ["HelmError"]))

    def test_raised_and_caught(self):
        for name in WITH_GIVEN + WITH_INDEX:
            made = getattr(errors, name)
            with self.subTest(name=name), self.assertRaises(errors.HelmError) as caught:
                raise made((2, 4))
            self.assertIs(type(caught.exception), made)


if __name__ == "__main__":
    unittest.main()
