"""Point 3: each refusal is a class of its own under MillError, which stands under ValueError."""

import unittest

from stripmill import errors
from stripmill.errors import BadGiven, BadText, MillError

PLAIN = ("NoMeasure", "BadCount", "BadName", "Twice", "BadSize", "BadNumber", "NoDeed", "NoStage", "BadStep", "BadPlan")
REFUSALS = PLAIN + ("BadGiven", "BadText")


class Refusals(unittest.TestCase):

    def test_mill_error_stands_under_value_error(self):
        self.assertEqual(MillError.__bases__, (ValueError,))

    def test_each_stands_under_mill_error_and_value_error(self):
        for name in REFUSALS:
            with self.subTest(name):
                refusal = getattr(errors, name)
                self.assertEqual(refusal.__name__, name)
                self.assertEqual(refusal.__bases__, (MillError,))
                self.assertTrue(issubclass(refusal, ValueError))

    def test_none_stands_under_another_one(self):
        for name in REFUSALS:
            for other in REFUSALS:
                if name != other:
                    with self.subTest(name=name, other=other):
                        self.assertFalse(issubclass(getattr(errors, name), getattr(errors, other)))

    def test_there_is_no_other_class(self):
        classes = [name for name, value in vars(errors).items() if isinstance(value, type)]
        self.assertEqual(sorted(classes), sorted(REFUSALS + ("MillError",)))

    def test_each_plain_one_is_raised_with_and_without_words(self):
        for name in PLAIN:
            refusal = getattr(errors, name)
            with self.subTest(name):
                with self.assertRaises(refusal):
                    raise refusal()
                with self.assertRaises(MillError) as caught:
                    raise refusal("some words")
                self.assertEqual(str(caught.exception), "some words")

    def test_bad_given_has_the_name(self):
        with self.assertRaises(MillError) as caught:
            raise BadGiven("base")
        self.assertEqual(caught.exception.name, "base")
        self.assertIs(type(caught.exception.name), str)
        self.assertEqual(BadGiven("other").name, "other")

    def test_bad_text_has_the_row(self):
        for row in (0, 7):
            with self.assertRaises(MillError) as caught:
                raise BadText(row)
            self.assertEqual(caught.exception.row, row)
            self.assertIs(type(caught.exception.row), int)


if __name__ == "__main__":
    unittest.main()
