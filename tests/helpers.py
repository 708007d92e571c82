"""What the tests share."""

import unittest

from drawclaims import errors

BASES = (errors.InputError, errors.StateError, errors.LimitError)
ERRORS = tuple(
    value
    for value in vars(errors).values()
    if isinstance(value, type) and issubclass(value, BASES) and value not in BASES
)


class Other:
    """A value of a kind that the program does not know."""


OTHER = Other()


def same(left, right):
    """Equality of values and kinds, so that True is not 1, also inside of tuples, lists and dicts."""
    if type(left) is not type(right):
        return False
    if isinstance(left, (tuple, list)):
        return len(left) == len(right) and all(same(a, b) for a, b in zip(left, right))
    if isinstance(left, dict):
        return same(list(left.items()), list(right.items()))
    return left is right or left == right


class ProgramTest(unittest.TestCase):
    def assert_same(self, found, wanted):
        # The message is made only here: Python refuses the text of the longest integers that are compared.
        if not same(found, wanted):
            self.fail(f"{found!r} is not {wanted!r}")

    def assert_error(self, wanted, fields, call, *args, **more):
        """The call raises an error of just this class, with just these fields."""
        with self.assertRaises(BASES) as caught:
            call(*args, **more)
        found = caught.exception
        self.assertIs(type(found), wanted)
        self.assertEqual(list(vars(found)), list(fields))
        for name, value in fields.items():
            self.assert_same(getattr(found, name), value)
        self.assertEqual([each for each in ERRORS if isinstance(found, each)], [wanted])
