"""A test case for calls that raise errors."""

import unittest
from copy import deepcopy


class RaisingTest(unittest.TestCase):
    def assert_raises(self, error, at, function, *arguments):
        """The call raises just this error, and what is passed in stays as it is."""
        before = deepcopy(arguments)
        with self.assertRaises(error) as caught:
            function(*arguments)
        self.assertIs(type(caught.exception), error)
        self.assertTrue(caught.exception.at == at)
        self.assertEqual(arguments, before)
