import unittest

from letterlaw import errors

PLAIN = ("NoLetters", "NoPact", "NoStep", "NoOrder", "TooFar", "NoWorld", "TooMany", "NoRow")
WITH_VALUE = {"NoWord": "place", "NoUse": "at", "NotTurned": "number"}


class Refusals(unittest.TestCase):
    def test_any_refusal_is_a_value_error(self):
        self.assertEqual(errors.LetterError.__bases__, (ValueError,))

    def test_each_stands_straight_under_letter_error(self):
        for name in PLAIN + tuple(WITH_VALUE):
            with self.subTest(name):
                self.assertEqual(getattr(errors, name).__bases__, (errors.LetterError,))

    def test_no_two_names_are_one_class(self):
        names = PLAIN + tuple(WITH_VALUE)
        self.assertEqual(len({getattr(errors, name) for name in names}), 11)

    def test_values(self):
        for name, value in WITH_VALUE.items():
            for number in (0, 7, 60):
                with self.subTest(name, number=number):
                    refusal = getattr(errors, name)(number)
                    self.assertEqual(getattr(refusal, value), number)

    def test_values_are_taken_by_name_too(self):
        self.assertEqual(errors.NoWord(place=3).place, 3)
        self.assertEqual(errors.NoUse(at=4).at, 4)
        self.assertEqual(errors.NotTurned(number=5).number, 5)

    def test_values_are_each_objects_own(self):
        one = errors.NoWord(1)
        other = errors.NoWord(2)
        self.assertEqual((one.place, other.place), (1, 2))

    def test_raised_and_taken(self):
        for name in PLAIN:
            with self.subTest(name), self.assertRaises(errors.LetterError):
                raise getattr(errors, name)()


if __name__ == "__main__":
    unittest.main()
