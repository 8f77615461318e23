"""Points 0.22 and 0.23: from what the errors are derived, and what they keep."""

import unittest

from loopgrowth import errors
from loopgrowth.errors import (
    InvalidBalance, InvalidCommand, InvalidEdit, InvalidGraph, InvalidNumber, InvalidOperation, InvalidRecipe,
    InvalidSystem, LoopError, NotEnough, NothingToUndo, ParseError, TooMany, UnknownName,
)
from samples import odd_values

WITH_MESSAGE = (InvalidSystem, InvalidGraph, InvalidRecipe, InvalidBalance, InvalidOperation, InvalidEdit, ParseError,
                InvalidCommand)
WITH_VALUE = ((InvalidNumber, IndexError, "value"), (UnknownName, KeyError, "name"), (TooMany, OverflowError, "limit"),
              (NotEnough, ArithmeticError, "counter"), (NothingToUndo, LookupError, "many"))


class TestErrors(unittest.TestCase):
    def test_loop_error(self):
        self.assertEqual(LoopError.__bases__, (ValueError,))
        self.assertIn("so it is", str(LoopError("so it is")))

    def test_errors_with_a_message(self):
        for one in WITH_MESSAGE:
            self.assertEqual(one.__bases__, (LoopError,))
            self.assertIsInstance(one("a message"), ValueError)
            for other in WITH_MESSAGE:
                self.assertEqual(issubclass(one, other), one is other)

    def test_errors_with_a_value(self):
        for one, base, attribute in WITH_VALUE:
            self.assertEqual(one.__bases__, (base,))
            self.assertFalse(issubclass(one, LoopError))
            self.assertFalse(issubclass(one, ValueError))
            for other, _, _ in WITH_VALUE:
                self.assertEqual(issubclass(one, other), one is other)
            for value in odd_values() + [10 ** 5000, -10 ** 30, 2 ** 64]:
                error = one(value)
                self.assertIs(getattr(error, attribute), value)
                self.assertIsInstance(str(error), str)

    def test_errors_are_caught_by_their_own_names(self):
        for one, base, attribute in WITH_VALUE:
            with self.assertRaises(base) as caught:
                raise one(10 ** 40)
            self.assertEqual(getattr(caught.exception, attribute), 10 ** 40)
        for one in WITH_MESSAGE:
            with self.assertRaises(LoopError):
                raise one("a message")

    def test_there_are_no_other_errors(self):
        classes = {name for name, value in vars(errors).items() if isinstance(value, type)}
        self.assertEqual(classes, {one.__name__ for one in WITH_MESSAGE}
                         | {one.__name__ for one, _, _ in WITH_VALUE} | {"LoopError"})


if __name__ == "__main__":
    unittest.main()
