"""The interface, whencewise/errors.py."""

import unittest

from whencewise import errors
from whencewise.errors import (
    Misfit, NoColumn, NoKind, NoName, NoNote, NoTable, NoText, NotPlain, Twice, Unlike, WhenceError,
)

REFUSALS = [NoName, NoNote, NoKind, Twice, Misfit, NoTable, NoColumn, Unlike, NotPlain, NoText]


def takes(taker, raised):
    """Whether a handler of the one class takes an error of the other."""
    try:
        raise raised("words")
    except taker:
        return True
    except Exception:
        return False


class Errors(unittest.TestCase):
    def test_base_stands_straight_under_value_error(self):
        self.assertEqual(WhenceError.__bases__, (ValueError,))

    def test_each_stands_straight_under_the_base(self):
        for refusal in REFUSALS:
            with self.subTest(refusal=refusal.__name__):
                self.assertEqual(refusal.__bases__, (WhenceError,))

    def test_each_is_called_by_its_name(self):
        names = ["NoName", "NoNote", "NoKind", "Twice", "Misfit", "NoTable", "NoColumn", "Unlike", "NotPlain", "NoText"]
        self.assertEqual([refusal.__name__ for refusal in REFUSALS], names)
        for name, refusal in zip(names, REFUSALS):
            self.assertIs(getattr(errors, name), refusal)

    def test_each_is_taken_as_the_base_and_as_value_error(self):
        for refusal in REFUSALS + [WhenceError]:
            with self.subTest(refusal=refusal.__name__):
                self.assertTrue(takes(WhenceError, refusal))
                self.assertTrue(takes(ValueError, refusal))
                self.assertTrue(takes(refusal, refusal))

    def test_none_takes_another(self):
        for taker in REFUSALS:
            for raised in REFUSALS + [WhenceError, ValueError]:
                if taker is not raised:
                    with self.subTest(taker=taker.__name__, raised=raised.__name__):
                        self.assertFalse(takes(taker, raised))

    def test_base_does_not_take_every_value_error(self):
        self.assertFalse(takes(WhenceError, ValueError))


if __name__ == "__main__":
    unittest.main()
