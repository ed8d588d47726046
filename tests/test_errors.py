import inspect
import unittest

from ownpartners import errors

PARAMETERS = {
    "BadKind": "thing", "BadMark": "thing", "BadRow": "thing", "BadRows": "thing", "BadLength": "thing",
    "BadBook": "thing", "BadPlaces": "thing", "BadChange": "thing", "BadNumber": "thing", "BadCounts": "thing",
    "BadBooks": "thing", "BadFamily": "thing", "BadClaim": "thing", "BadText": "at", "OtherKind": "thing",
    "OtherLength": "thing", "TooLong": None, "TooMany": "most", "NotWhole": "at", "NotNought": "certificate",
    "NotOwn": "certificate", "NotFourfold": "certificate", "NotAlike": "certificate", "NoOwn": None,
    "InBook": "thing", "MeetsItself": "thing", "HasTwo": "thing", "Unkept": "claim", "NoClaim": "thing",
    "NothingToUndo": None, "NothingToRedo": None,
}

VALUES = (None, True, 0, -3, "two", (), [1], {"a": [2]}, (0, 1), ("meet", (1,), (1,)))


class Errors(unittest.TestCase):
    def test_book_error_is_an_exception_itself(self):
        self.assertEqual(errors.BookError.__bases__, (Exception,))
        self.assertTrue(issubclass(errors.BookError, Exception))

    def test_each_error_has_no_other_base_than_book_error(self):
        for name in PARAMETERS:
            with self.subTest(name):
                self.assertEqual(getattr(errors, name).__bases__, (errors.BookError,))
                self.assertEqual(getattr(errors, name).__module__, "ownpartners.errors")

    def test_there_are_no_other_errors(self):
        found = {name for name, _ in inspect.getmembers(errors, inspect.isclass)}
        self.assertEqual(found, set(PARAMETERS) | {"BookError"})

    def test_parameters_are_attributes_by_position_and_by_name(self):
        for name, parameter in PARAMETERS.items():
            if parameter is None:
                continue
            for value in VALUES:
                with self.subTest(name, value=value):
                    self.assertIs(getattr(getattr(errors, name)(value), parameter), value)
                    self.assertIs(getattr(getattr(errors, name)(**{parameter: value}), parameter), value)
                    self.assertEqual(vars(getattr(errors, name)(value)), {parameter: value})

    def test_errors_take_just_their_parameters(self):
        for name, parameter in PARAMETERS.items():
            with self.subTest(name):
                if parameter is None:
                    self.assertEqual(vars(getattr(errors, name)()), {})
                else:
                    self.assertRaises(TypeError, getattr(errors, name))
                    self.assertRaises(TypeError, getattr(errors, name), 1, 2)

    def test_errors_are_raised_and_caught_as_book_errors(self):
        for name, parameter in PARAMETERS.items():
            arguments = () if parameter is None else ([name],)
            with self.subTest(name), self.assertRaises(errors.BookError):
                raise getattr(errors, name)(*arguments)


if __name__ == "__main__":
    unittest.main()
