"""What several tests share."""

import unittest
from itertools import product


def words(alphabet, most):
    """All words of up to so many letters, shorter words first."""
    return ["".join(letters) for many in range(most + 1) for letters in product(alphabet, repeat=many)]


class Case(unittest.TestCase):
    def fails(self, error, call, *rest, **more):
        """The error of a call, which is of just this class."""
        with self.assertRaises(error) as caught:
            call(*rest, **more)
        self.assertIs(caught.exception.__class__, error)
        return caught.exception

    def gives(self, error, given, call, *rest, **more):
        """Looks at the error of a call and at what it was given: 1 is not True there."""
        told = self.fails(error, call, *rest, **more).given
        self.assertEqual((told, told.__class__), (given, given.__class__))
