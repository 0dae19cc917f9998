import unittest

from suffixhouse import errors

NAMES = [
    "BadLine", "BadText", "WrongOrder", "TooMany", "TakenNumber",
    "NoText", "OutOfRange", "BadStep", "NoChange",
]
NUMBERS = [0, 1, -1, 99, 2 ** 32, -(2 ** 200), 10 ** 6000, -(10 ** 6000)]


class ErrorsTest(unittest.TestCase):
    def test_each_keeps_its_integer(self):
        for name in ["HouseError", *NAMES]:
            for number in NUMBERS:
                error = getattr(errors, name)(number)
                self.assertTrue(error.at == number, name)
                self.assertIs(type(error.at), int)

    def test_each_can_be_shown(self):
        for name in ["HouseError", *NAMES]:
            for number in NUMBERS:
                error = getattr(errors, name)(number)
                self.assertIsInstance(str(error), str)
                self.assertIsInstance(repr(error), str)

    def test_each_stands_directly_below_the_base_class(self):
        self.assertEqual(errors.HouseError.__bases__, (ValueError,))
        for name in NAMES:
            self.assertEqual(getattr(errors, name).__bases__, (errors.HouseError,), name)

    def test_none_is_another_one(self):
        for name in NAMES:
            error = getattr(errors, name)(3)
            self.assertIsInstance(error, errors.HouseError)
            self.assertIsInstance(error, ValueError)
            for other in NAMES:
                self.assertEqual(isinstance(error, getattr(errors, other)), other == name)

    def test_base_class_is_none_of_the_others(self):
        error = errors.HouseError(3)
        self.assertIsInstance(error, ValueError)
        for name in NAMES:
            self.assertNotIsInstance(error, getattr(errors, name))

    def test_raised_and_caught_by_name(self):
        for name in NAMES:
            with self.assertRaises(getattr(errors, name)) as caught:
                raise getattr(errors, name)(-7)
            self.assertEqual(caught.exception.at, -7)


if __name__ == "__main__":
    unittest.main()
