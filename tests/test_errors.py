"""Point 4: the errors."""

import unittest

from blockshares import errors

ARGUMENTS = {
    "BadFolders": "index", "BadName": "name", "BadLot": "lot", "BadSize": "size", "BadNumber": "number",
    "NoFolder": "name", "Taken": "name", "UnlikeFolders": None, "Lacking": "lot", "NotStore": "lot",
    "BadTelling": "ends", "NotTold": "question", "Wrong": "weights", "NoMoment": "moment", "BadDeed": "deed",
    "NoDeed": None, "BadText": "line", "Held": "name", "NotHeld": "name",
}


class Errors(unittest.TestCase):

    def test_share_error_is_directly_under_value_error(self):
        self.assertEqual(errors.ShareError.__bases__, (ValueError,))

    def test_all_others_are_directly_under_share_error(self):
        for name in ARGUMENTS:
            with self.subTest(name):
                error = getattr(errors, name)
                self.assertEqual(error.__bases__, (errors.ShareError,))
                self.assertEqual((error.__module__, error.__name__), ("blockshares.errors", name))

    def test_the_argument_is_kept_by_position_and_by_name(self):
        for name, argument in ARGUMENTS.items():
            for thing in (3, True, None, "a", [1, ["b"]], ("a", "b"), {"a": 1}, errors.ShareError()):
                with self.subTest(name, thing=thing):
                    error = getattr(errors, name)
                    if argument is None:
                        self.assertEqual(error().__dict__, {})
                    else:
                        self.assertEqual(error(thing).__dict__, {argument: thing})
                        self.assertEqual(error(**{argument: thing}).__dict__, {argument: thing})

    def test_errors_take_no_other_arguments(self):
        for name, argument in ARGUMENTS.items():
            if argument is not None:
                with self.subTest(name):
                    self.assertRaises(TypeError, getattr(errors, name))
                    self.assertRaises(TypeError, getattr(errors, name), 1, 2)

    def test_they_can_be_caught_as_value_errors(self):
        with self.assertRaises(ValueError):
            raise errors.BadFolders(0)
