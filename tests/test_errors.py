"""Point 2: the refusals."""

import unittest

from loopcube import errors
from support import ALL_ERRORS


class Errors(unittest.TestCase):
    def test_base_stands_straight_under_value_error(self):
        self.assertEqual(errors.CordError.__bases__, (ValueError,))

    def test_others_stand_straight_under_the_base(self):
        for error in ALL_ERRORS:
            self.assertEqual(error.__bases__, (errors.CordError,))

    def test_none_is_caught_as_another_one(self):
        for error in ALL_ERRORS:
            for other in ALL_ERRORS:
                self.assertEqual(issubclass(error, other), error is other)

    def test_names(self):
        names = ["NoTable", "NoPlace", "NoMove", "NoWord", "NoText", "TooMany"]
        self.assertEqual([error.__name__ for error in ALL_ERRORS], names)
        for error in ALL_ERRORS:
            self.assertEqual(str(error("why")), "why")


if __name__ == "__main__":
    unittest.main()
