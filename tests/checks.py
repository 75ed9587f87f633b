"""What several tests ask for: just which error with just which attributes."""

import unittest

from neverbrush.errors import Unfit


class Checks(unittest.TestCase):
    def raises(self, kind, told, function, *values):
        """Asks that this error is raised, with just these attributes, kinds and all."""
        with self.assertRaises(kind) as caught:
            function(*values)
        self.assertIs(type(caught.exception), kind)
        self.assertEqual(repr(vars(caught.exception)), repr(told))

    def unfit(self, function, *values):
        self.raises(Unfit, {}, function, *values)
