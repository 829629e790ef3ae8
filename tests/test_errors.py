import unittest

from foldwalk import errors

NAMES = ("NoFloor", "NoPlace", "NoCell", "NoSquare", "NoBox", "NoNumber", "TooMany")


class ErrorClasses(unittest.TestCase):
    def test_walk_error_stands_under_value_error(self):
        self.assertEqual(errors.WalkError.__bases__, (ValueError,))

    def test_each_class_stands_under_walk_error(self):
        for name in NAMES:
            with self.subTest(name=name):
                found = getattr(errors, name)
                self.assertEqual(found.__name__, name)
                self.assertTrue(issubclass(found, errors.WalkError))
                self.assertTrue(issubclass(found, ValueError))

    def test_none_stands_under_another(self):
        for name in NAMES:
            for other in NAMES:
                if name != other:
                    with self.subTest(name=name, other=other):
                        self.assertFalse(issubclass(getattr(errors, name), getattr(errors, other)))

    def test_each_can_be_raised_and_taken(self):
        for name in NAMES:
            with self.subTest(name=name):
                with self.assertRaises(errors.WalkError):
                    raise getattr(errors, name)("words")


if __name__ == "__main__":
    unittest.main()
