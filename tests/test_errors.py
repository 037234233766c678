"""The errors of the package, and their fields."""

import unittest

from templates import errors

FIELDS = {
    "BadSize": (), "BadRelation": (), "BadArity": (), "BadPlaces": (), "BadOperation": (), "BadArguments": (),
    "BadTemplate": ("index",), "BadInstance": ("index",), "BadNames": (), "NotText": (),
    "InvalidText": ("line", "word"), "TooMany": ("most",), "BadTerm": ("index",), "BadFormula": ("index",),
    "BadCondition": ("index",), "NotAffine": (), "NotBoolean": (), "BadShape": (), "BadGraph": (),
    "BadCosts": ("index",), "BadTerms": ("index",), "NotBinary": (), "NotSubmodular": (), "BadFormulas": ("index",),
}


class ErrorsTest(unittest.TestCase):

    def test_base(self):
        self.assertEqual(errors.TemplateError.__bases__, (ValueError,))

    def test_direct_subclasses(self):
        for name in FIELDS:
            with self.subTest(name=name):
                self.assertEqual(getattr(errors, name).__bases__, (errors.TemplateError,))

    def test_there_are_no_others(self):
        listed = {kind.__name__ for kind in errors.TemplateError.__subclasses__()}
        self.assertEqual(listed, set(FIELDS))

    def test_fields_are_set_on_the_object(self):
        for name, fields in FIELDS.items():
            for first in (0, 3, 2000, None):
                with self.subTest(name=name, first=first):
                    values = [first, 7][:len(fields)]
                    error = getattr(errors, name)(*values)
                    self.assertEqual(vars(error), dict(zip(fields, values)))

    def test_fields_by_name(self):
        self.assertEqual(vars(errors.InvalidText(line=2, word=4)), {"line": 2, "word": 4})
        self.assertEqual(vars(errors.TooMany(most=2000)), {"most": 2000})
        self.assertEqual(vars(errors.BadTemplate(index=None)), {"index": None})

    def test_errors_have_a_message(self):
        for name, fields in FIELDS.items():
            with self.subTest(name=name):
                self.assertIsInstance(str(getattr(errors, name)(*[1, 2][:len(fields)])), str)


if __name__ == "__main__":
    unittest.main()
