import unittest

from veilsum import errors

NAMES = [
    "BadTable",
    "Nought",
    "AlikePoints",
    "TooFew",
    "BadSteps",
    "BadInputs",
    "BadChance",
    "BadHands",
    "NoVeil",
]


class Errors(unittest.TestCase):
    def test_veil_error_is_a_value_error(self):
        self.assertEqual(errors.VeilError.__bases__, (ValueError,))

    def test_each_stands_under_veil_error_alone(self):
        for name in NAMES:
            with self.subTest(name=name):
                self.assertEqual(getattr(errors, name).__bases__, (errors.VeilError,))

    def test_no_two_are_one(self):
        self.assertEqual(len({getattr(errors, name) for name in NAMES}), len(NAMES))


if __name__ == "__main__":
    unittest.main()
