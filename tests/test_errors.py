import unittest

from edgemoss import errors

NAMES = [
    "BadCell", "BadPiece", "BadTurn", "TooMany", "Endless",
    "TooWide", "NoCell", "NoMarks", "NoText", "BadDeed",
]
WITH_NUMBER = {"BadCell": "place", "NoText": "at"}


class Refusals(unittest.TestCase):
    """0.4"""

    def test_moss_error_stands_straight_under_value_error(self):
        self.assertEqual(errors.MossError.__bases__, (ValueError,))

    def test_each_stands_straight_under_moss_error(self):
        for name in NAMES:
            self.assertEqual(getattr(errors, name).__bases__, (errors.MossError,), name)

    def test_none_stands_under_another_one(self):
        for one in NAMES:
            for other in NAMES:
                under = issubclass(getattr(errors, one), getattr(errors, other))
                self.assertEqual(under, one == other, (one, other))

    def test_number_is_kept_as_the_field(self):
        for name, field in WITH_NUMBER.items():
            for number in (0, 7, 399, 10 ** 30):
                error = getattr(errors, name)(number)
                self.assertEqual(getattr(error, field), number)
                self.assertIsInstance(str(error), str)

    def test_the_others_are_made_with_one_text(self):
        for name in ["MossError"] + [name for name in NAMES if name not in WITH_NUMBER]:
            error = getattr(errors, name)("some words")
            self.assertEqual(str(error), "some words")
            self.assertFalse(hasattr(error, "place"))
            self.assertFalse(hasattr(error, "at"))

    def test_raised_and_taken_as_what_they_stand_under(self):
        for name in ["MossError"] + NAMES:
            made_with = 3 if name in WITH_NUMBER else "words"
            for taken in (errors.MossError, ValueError):
                with self.assertRaises(taken):
                    raise getattr(errors, name)(made_with)


if __name__ == "__main__":
    unittest.main()
