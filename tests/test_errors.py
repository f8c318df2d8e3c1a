"""Point 3: the classes of the refusals."""

import unittest

from overlaid import errors
from tests.plain import CLASSES


class Classes(unittest.TestCase):
    def test_cover_error_stands_straight_under_value_error(self):
        self.assertEqual(errors.CoverError.__bases__, (ValueError,))

    def test_nine_classes_stand_straight_under_cover_error(self):
        names = ["NoWord", "NoSign", "NoText", "NoCover", "NoNumber", "NoChain", "TooMany", "NoForm", "NoneYet"]
        self.assertEqual([one.__name__ for one in CLASSES], names)
        for one in CLASSES:
            self.assertEqual(one.__bases__, (errors.CoverError,))

    def test_none_stands_under_another(self):
        self.assertEqual(len(set(CLASSES)), 9)
        for one in CLASSES:
            for other in CLASSES:
                self.assertEqual(issubclass(one, other), one is other)

    def test_each_can_be_raised_and_taken(self):
        for one in CLASSES:
            with self.assertRaises(errors.CoverError) as held:
                raise one("why")
            self.assertIs(type(held.exception), one)
            self.assertEqual(str(held.exception), "why")


if __name__ == "__main__":
    unittest.main()
