"""[0.3] and the interface of errors.py."""

import copy
import unittest

from debtsheld import errors
from debtsheld.errors import (
    BadChecked, BadDeed, BadKind, BadName, BadNumber, BadProgram, BadPromise, BadText, BadWorld, DebtError,
)
from tests.samples import ANY_VALUES

CLASSES = (BadProgram, BadText, BadChecked, BadWorld, BadNumber, BadKind, BadName, BadPromise, BadDeed)
NAMES = ("BadProgram", "BadText", "BadChecked", "BadWorld", "BadNumber", "BadKind", "BadName", "BadPromise",
         "BadDeed")


class ErrorTests(unittest.TestCase):

    def test_bases(self):
        self.assertEqual(DebtError.__bases__, (Exception,))
        for made in CLASSES:
            self.assertEqual(made.__bases__, (DebtError,))
            self.assertTrue(issubclass(made, Exception))

    def test_names_and_places(self):
        self.assertEqual(tuple(made.__name__ for made in CLASSES), NAMES)
        for made in CLASSES + (DebtError,):
            self.assertEqual(made.__module__, "debtsheld.errors")
            self.assertIs(getattr(errors, made.__name__), made)

    def test_each_class_has_its_own_init(self):
        for made in CLASSES:
            self.assertIn("__init__", made.__dict__)

    def test_thing_by_position_and_by_name(self):
        for made in CLASSES:
            for value in ANY_VALUES:
                self.assertIs(made(value).thing, value)
                self.assertIs(made(thing=value).thing, value)

    def test_exactly_one_parameter(self):
        for made in CLASSES:
            for arguments, named in (((), {}), ((1, 2), {}), ((), {"other": 1}), ((1,), {"thing": 1})):
                with self.assertRaises(TypeError):
                    made(*arguments, **named)

    def test_raised_and_caught(self):
        for made in CLASSES:
            with self.assertRaises(DebtError) as caught:
                raise made([1])
            self.assertIs(type(caught.exception), made)
            self.assertEqual(caught.exception.thing, [1])

    def test_not_caught_as_another(self):
        for made in CLASSES:
            for other in CLASSES:
                self.assertEqual(isinstance(made(1), other), made is other)

    def test_two_errors_carry_their_own_things(self):
        for made in CLASSES:
            one, two = made("one"), made("two")
            self.assertEqual((one.thing, two.thing), ("one", "two"))

    def test_shown_as_the_document_shows_it(self):
        for made in CLASSES:
            self.assertEqual(repr(made("(f)")), made.__name__ + "('(f)')")

    def test_copied(self):
        for made in CLASSES:
            self.assertEqual(copy.copy(made((1, 2))).thing, (1, 2))


if __name__ == "__main__":
    unittest.main()
