"""passtexts.errors: what each error is, and what it tells."""

import unittest

from passtexts import errors

PLAIN = ("BadNumber", "NotThrifty", "NotPlain", "TooLarge", "NothingDone")
TELLING = {"BadProgram": ("part",), "BadSet": ("part",), "BadWord": ("place",), "BadText": ("line", "column"),
           "BadName": ("name",), "Unlike": ("what",), "BadPipe": ("number",)}


class Errors(unittest.TestCase):
    def test_all_are_pass_errors_themselves(self):
        self.assertEqual(errors.PassError.__bases__, (ValueError,))
        for name in PLAIN + tuple(TELLING):
            self.assertEqual(getattr(errors, name).__bases__, (errors.PassError,), name)

    def test_attributes(self):
        for name, attributes in TELLING.items():
            told = [f"told {attribute}" for attribute in attributes]
            error = getattr(errors, name)(*told)
            self.assertEqual([getattr(error, attribute) for attribute in attributes], told)

    def test_attributes_may_be_none(self):
        self.assertIsNone(errors.BadProgram(None).part)
        self.assertIsNone(errors.BadWord(None).place)
