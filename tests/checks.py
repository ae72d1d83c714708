"""What the tests of several modules check in one way."""

import unittest

from tests.values import same


class Checks(unittest.TestCase):
    def assert_given(self, error, value, function, *arguments):
        """A call raises an error that names just this value."""
        with self.assertRaises(error) as caught:
            function(*arguments)
        self.assertTrue(same(caught.exception.given, value), (caught.exception.given, value))
