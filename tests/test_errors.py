"""The errors: which there are, what they are, and what they keep."""

import unittest

from support import any_values

from singlegates import errors

TOLD = {
    "Unfit": (), "BadNet": ("error",), "BadWay": ("error",), "BadStanding": ("error",), "BadMove": ("error",),
    "BadRun": ("error",), "BadDay": ("error",), "BadText": (), "Stuck": ("lot",), "Ungated": ("station",),
    "Refused": ("lot",), "Full": ("station",), "Needed": ("trains",), "TooMany": ("limit",), "TooManyEdits": ("limit",),
    "NothingToUndo": (), "NothingToRedo": (), "NoVersion": ("given",),
}


class Errors(unittest.TestCase):
    def test_which_there_are(self):
        found = [name for name in vars(errors) if not name.startswith("_")]
        self.assertEqual(sorted(found), sorted(["OfficeError", *TOLD]))

    def test_office_error_is_a_value_error(self):
        self.assertEqual(errors.OfficeError.__bases__, (ValueError,))

    def test_all_others_are_directly_under_it(self):
        for name in TOLD:
            self.assertEqual(vars(errors)[name].__bases__, (errors.OfficeError,), name)
            self.assertEqual(vars(errors)[name].__name__, name)
            self.assertEqual(vars(errors)[name].__module__, "singlegates.errors")

    def test_fields_are_kept_as_passed(self):
        for name, fields in TOLD.items():
            error = vars(errors)[name]
            for value in any_values():
                for made in [error(*[value for _ in fields]), error(**{field: value for field in fields})]:
                    self.assertEqual(list(vars(made)), list(fields), name)
                    for field in fields:
                        self.assertIs(getattr(made, field), value, name)

    def test_arguments_are_asked_for(self):
        for name, fields in TOLD.items():
            if fields:
                with self.assertRaises(TypeError):
                    vars(errors)[name]()
                with self.assertRaises(TypeError):
                    vars(errors)[name](1, 2)

    def test_they_are_raised_and_caught(self):
        for name, fields in TOLD.items():
            error = vars(errors)[name]
            for caught in (error, errors.OfficeError, ValueError):
                with self.assertRaises(caught):
                    raise error(*[(1, 2) for _ in fields])
            for other in TOLD:
                self.assertEqual(issubclass(error, vars(errors)[other]), other == name)


if __name__ == "__main__":
    unittest.main()
