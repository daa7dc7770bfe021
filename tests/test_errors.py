"""Promise [5]: the errors."""

import unittest

from modulusfields import errors

NAMES = [
    "InvalidPrime", "InvalidPolynomial", "InvalidModulus", "InvalidNumber",
    "InvalidRest", "InvalidList", "InvalidGroup", "TooMany",
]


class ErrorsTest(unittest.TestCase):
    def test_base(self):
        self.assertEqual(errors.ModulusError.__bases__, (ValueError,))
        with self.assertRaises(ValueError):
            raise errors.ModulusError()

    def test_directly_under_the_base(self):
        for name in NAMES:
            self.assertEqual(getattr(errors, name).__bases__, (errors.ModulusError,), name)

    def test_with_a_value(self):
        for name in NAMES:
            for value in [None, True, 0, 2580, "word", [], [[1], 2], (3,), {"a": [1]}]:
                self.assertIs(getattr(errors, name)(value).value, value, name)
                self.assertIs(getattr(errors, name)(value=value).value, value, name)

    def test_without_a_value(self):
        for name in NAMES:
            self.assertIsNone(getattr(errors, name)().value, name)

    def test_one_argument(self):
        for name in NAMES:
            with self.assertRaises(TypeError):
                getattr(errors, name)(1, 2)

    def test_raised_and_caught_by_the_base(self):
        for name in NAMES:
            with self.assertRaises(errors.ModulusError) as caught:
                raise getattr(errors, name)([1])
            self.assertEqual(caught.exception.value, [1])
            self.assertIsInstance(str(caught.exception), str)

    def test_no_error_is_under_another_one(self):
        for name in NAMES:
            for other in NAMES:
                if name != other:
                    self.assertFalse(issubclass(getattr(errors, name), getattr(errors, other)))

    def test_no_other_classes(self):
        classes = [name for name, value in vars(errors).items() if isinstance(value, type)]
        self.assertEqual(sorted(classes), sorted(NAMES + ["ModulusError"]))


if __name__ == "__main__":
    unittest.main()
