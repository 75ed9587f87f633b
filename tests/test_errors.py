"""The error classes: each directly under one built-in one, each with its attributes."""

import unittest

from neverbrush import errors

LOOKUP = {"NoCrossing": "crossing", "NoRoad": "road", "NoStretch": "stretch", "NothingDone": None}
VALUE = {"BadText": "line", "Broken": "number", "CanNot": None, "TooMany": None, "Unfit": None}


class Errors(unittest.TestCase):
    def test_one_direct_base_class_each(self):
        for base, names in ((LookupError, LOOKUP), (ValueError, VALUE)):
            for name in names:
                with self.subTest(name):
                    self.assertEqual(getattr(errors, name).__bases__, (base,))
                    self.assertEqual(getattr(errors, name).__module__, "neverbrush.errors")

    def test_what_stands_in_brackets_is_kept(self):
        for names in (LOOKUP, VALUE):
            for name, attribute in names.items():
                kind = getattr(errors, name)
                with self.subTest(name):
                    if attribute is None:
                        self.assertEqual(vars(kind()), {})
                    else:
                        for value in (7, -1, ("W", 0, "S"), (0, "")):
                            self.assertEqual(vars(kind(value)), {attribute: value})
                            self.assertEqual(vars(kind(**{attribute: value})), {attribute: value})

    def test_no_other_error_class(self):
        found = {name for name, kind in vars(errors).items()
                 if isinstance(kind, type) and issubclass(kind, Exception)}
        self.assertEqual(found, set(LOOKUP) | set(VALUE))

    def test_they_are_raised_and_caught_by_name(self):
        for names in (LOOKUP, VALUE):
            for name, attribute in names.items():
                kind = getattr(errors, name)
                with self.subTest(name), self.assertRaises(kind):
                    raise kind(3) if attribute else kind()


if __name__ == "__main__":
    unittest.main()
