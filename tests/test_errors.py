import unittest

from weavehall import errors

NAMES = ["BadCloth", "BadLoom", "NoThread", "TooBig", "BadColours", "BadText"]


class ErrorsTest(unittest.TestCase):
    def test_weave_error_stands_straight_under_value_error(self):
        self.assertEqual(errors.WeaveError.__bases__, (ValueError,))

    def test_each_refusal_is_a_class_under_weave_error(self):
        for name in NAMES:
            with self.subTest(name=name):
                self.assertTrue(issubclass(getattr(errors, name), errors.WeaveError))
                self.assertIsNot(getattr(errors, name), errors.WeaveError)

    def test_none_stands_under_another(self):
        for one in NAMES:
            for other in NAMES:
                if one != other:
                    with self.subTest(one=one, other=other):
                        self.assertFalse(issubclass(getattr(errors, one), getattr(errors, other)))

    def test_weave_error_and_value_error_take_each_refusal(self):
        for name in NAMES:
            for base in (errors.WeaveError, ValueError):
                with self.subTest(name=name, base=base):
                    with self.assertRaises(base):
                        raise getattr(errors, name)("words")


if __name__ == "__main__":
    unittest.main()
