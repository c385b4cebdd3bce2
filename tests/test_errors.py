import unittest

from surehall import errors
from surehall.errors import HallError, NoSeal, NoThing, NoWord, TooLarge, Unfit

REFUSALS = (NoSeal, Unfit, TooLarge, NoThing, NoWord)


def taken_by(error, kind):
    try:
        raise error("words")
    except kind:
        return True
    except Exception:
        return False


class Refusals(unittest.TestCase):
    def test_the_six_are_there_by_name(self):
        for name in ("HallError", "NoSeal", "Unfit", "TooLarge", "NoThing", "NoWord"):
            self.assertEqual(getattr(errors, name).__name__, name)

    def test_hall_error_stands_straight_under_value_error(self):
        self.assertEqual(HallError.__bases__, (ValueError,))

    def test_each_refusal_stands_straight_under_hall_error(self):
        for refusal in REFUSALS:
            self.assertEqual(refusal.__bases__, (HallError,))

    def test_each_is_taken_by_hall_error_and_by_value_error(self):
        for refusal in REFUSALS + (HallError,):
            self.assertTrue(taken_by(refusal, HallError), refusal)
            self.assertTrue(taken_by(refusal, ValueError), refusal)
            self.assertTrue(taken_by(refusal, refusal), refusal)

    def test_none_is_taken_by_the_name_of_another(self):
        for refusal in REFUSALS:
            for other in REFUSALS:
                if other != refusal:
                    self.assertFalse(taken_by(refusal, other), (refusal, other))
            self.assertFalse(taken_by(HallError, refusal), refusal)

    def test_none_is_taken_by_other_errors_of_python(self):
        for refusal in REFUSALS + (HallError,):
            for other in (KeyError, IndexError, TypeError, ArithmeticError):
                self.assertFalse(taken_by(refusal, other), (refusal, other))


if __name__ == "__main__":
    unittest.main()
