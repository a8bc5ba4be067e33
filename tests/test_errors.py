import unittest

from manyclocks import errors

STRAIGHT = ("NoScore", "TooLong", "NoTime", "NoDeed", "Unlike", "NoText", "NoLine")


class Errors(unittest.TestCase):
    def test_any_refusal_is_straight_under_value_error(self):
        self.assertEqual(errors.ClockError.__bases__, (ValueError,))

    def test_each_is_straight_under_clock_error(self):
        for name in STRAIGHT:
            self.assertEqual(getattr(errors, name).__bases__, (errors.ClockError,), name)

    def test_each_is_raised_and_caught_by_name(self):
        for name in STRAIGHT:
            kind = getattr(errors, name)
            with self.assertRaises(kind):
                raise kind(3) if name == "NoText" else kind("why")

    def test_no_text_has_its_line(self):
        for number in (0, 1, 6000):
            self.assertEqual(errors.NoText(number).line, number)
        with self.assertRaises(errors.NoText) as caught:
            raise errors.NoText(12)
        self.assertEqual(caught.exception.line, 12)

    def test_no_text_takes_its_line_by_name(self):
        self.assertEqual(errors.NoText(line=4).line, 4)


if __name__ == "__main__":
    unittest.main()
