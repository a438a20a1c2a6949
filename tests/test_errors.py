"""[4]: the errors."""

import unittest

from laytwice import errors
from tests.samples import any_values

WITH_ARGUMENT = {
    "InvalidPiece": "word",
    "InvalidProgram": "at",
    "InvalidText": "at",
    "InvalidRow": "part",
    "InvalidTool": "at",
    "Refused": "word",
    "NoPiece": "at",
    "NoRow": "at",
}
WITHOUT_ARGUMENT = ("InvalidGoal", "InvalidCommand")


class ErrorsTest(unittest.TestCase):
    def test_all_are_errors_of_the_package(self):
        self.assertEqual(errors.LayError.__bases__, (ValueError,))
        for name in (*WITH_ARGUMENT, *WITHOUT_ARGUMENT):
            self.assertEqual(getattr(errors, name).__bases__, (errors.LayError,), name)

    def test_no_other_errors(self):
        found = {name for name, value in vars(errors).items() if isinstance(value, type)}
        self.assertEqual(found, {"LayError", *WITH_ARGUMENT, *WITHOUT_ARGUMENT})

    def test_argument_by_position_is_kept_itself(self):
        for name, attribute in WITH_ARGUMENT.items():
            for value in any_values():
                error = getattr(errors, name)(value)
                self.assertIs(getattr(error, attribute), value)
                self.assertEqual(vars(error).keys(), {attribute})

    def test_argument_by_name_is_kept_itself(self):
        for name, attribute in WITH_ARGUMENT.items():
            for value in any_values():
                error = getattr(errors, name)(**{attribute: value})
                self.assertIs(getattr(error, attribute), value)

    def test_a_list_that_is_changed_is_no_copy(self):
        for name, attribute in WITH_ARGUMENT.items():
            value = [1]
            error = getattr(errors, name)(value)
            value.append(2)
            self.assertEqual(getattr(error, attribute), [1, 2])

    def test_argument_is_needed(self):
        for name in WITH_ARGUMENT:
            with self.assertRaises(TypeError):
                getattr(errors, name)()

    def test_without_argument(self):
        for name in WITHOUT_ARGUMENT:
            error = getattr(errors, name)()
            self.assertEqual(vars(error), {})

    def test_raised_and_caught(self):
        for name in WITH_ARGUMENT:
            with self.assertRaises(errors.LayError):
                raise getattr(errors, name)(7)

    def test_not_iterable(self):
        for name in WITH_ARGUMENT:
            with self.assertRaises(TypeError):
                iter(getattr(errors, name)("ab"))
