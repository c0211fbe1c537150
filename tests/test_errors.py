"""The errors of the interface, and point 2: no error class has another base class than stated."""

import unittest

from loopsdeep import errors
from loopsdeep.errors import (
    BadExpression, BadLevels, BadMachine, BadText, InvalidCommand, LoopError, NoMachine, NoMove, NothingToUndo,
    NotReversible, SharedLetter)
from tests.samples import odd_values

WITH_PARAMETER = {
    BadMachine: "part", BadExpression: "part", BadText: "place", SharedLetter: "letter", NotReversible: "witness",
    BadLevels: "levels", NoMove: "letter"}
WITHOUT = (NothingToUndo, InvalidCommand, NoMachine)
ALL = (*WITH_PARAMETER, *WITHOUT)


class ErrorTest(unittest.TestCase):

    def test_bases(self):
        self.assertEqual(LoopError.__bases__, (Exception,))
        for kind in ALL:
            self.assertEqual(kind.__bases__, (LoopError,))
            self.assertEqual(kind.__module__, "loopsdeep.errors")

    def test_there_are_no_others(self):
        found = [thing for thing in vars(errors).values() if isinstance(thing, type)]
        self.assertEqual({thing.__name__ for thing in found}, {kind.__name__ for kind in (LoopError, *ALL)})

    def test_parameter_is_the_very_attribute(self):
        for kind, name in WITH_PARAMETER.items():
            for value in odd_values():
                self.assertIs(getattr(kind(value), name), value)
                self.assertIs(getattr(kind(**{name: value}), name), value)

    def test_parameter_is_needed(self):
        for kind in WITH_PARAMETER:
            with self.assertRaises(TypeError):
                kind()
            with self.assertRaises(TypeError):
                kind(1, 2)
            with self.assertRaises(TypeError):
                kind(other=1)

    def test_raised_and_caught(self):
        errors_made = [kind(0) for kind in WITH_PARAMETER] + [kind(**{WITH_PARAMETER[kind]: 0}) for kind in
                                                              WITH_PARAMETER] + [kind() for kind in WITHOUT]
        for error in errors_made:
            for caught in (error.__class__, LoopError, Exception):
                with self.assertRaises(caught) as context:
                    raise error
                self.assertIs(context.exception, error)
            for other in ALL:
                self.assertEqual(isinstance(error, other), other is error.__class__)

    def test_base_class_can_be_raised(self):
        with self.assertRaises(LoopError) as context:
            raise LoopError()
        self.assertFalse(isinstance(context.exception, ALL))

    def test_errors_are_equal_to_nothing_else(self):
        for kind in WITH_PARAMETER:
            for value in odd_values():
                self.assertFalse(kind(0) == value)


if __name__ == "__main__":
    unittest.main()
