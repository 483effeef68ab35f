"""The refusals: where they stand, and their fields."""

import unittest

from rowblade import errors
from rowblade.errors import BladeError, Endless, NoLine, NoMark, NoPattern, TwoMarks

EIGHT = ("NoPattern", "NotThat", "NotWoven", "Finished", "NoLine", "TwoMarks", "NoMark", "Endless")


class RefusalTest(unittest.TestCase):
    def test_any_refusal_is_a_value_error(self):
        self.assertTrue(issubclass(BladeError, ValueError))

    def test_the_eight_stand_under_blade_error(self):
        for name in EIGHT:
            with self.subTest(name):
                self.assertTrue(issubclass(getattr(errors, name), BladeError))
                self.assertIsNot(getattr(errors, name), BladeError)

    def test_none_of_the_eight_stands_under_another(self):
        for name in EIGHT:
            for other in EIGHT:
                if name != other:
                    with self.subTest(name=name, other=other):
                        self.assertFalse(issubclass(getattr(errors, name), getattr(errors, other)))

    def test_the_field_row(self):
        for kind in (NoLine, TwoMarks, NoMark):
            with self.subTest(kind.__name__):
                with self.assertRaises(BladeError) as caught:
                    raise kind(7)
                self.assertEqual(caught.exception.row, 7)

    def test_the_fields_of_endless(self):
        with self.assertRaises(BladeError) as caught:
            raise Endless(3, 5)
        self.assertEqual((caught.exception.row, caught.exception.line), (3, 5))

    def test_refusals_without_fields_bear_words(self):
        for name in ("NoPattern", "NotThat", "NotWoven", "Finished"):
            with self.subTest(name):
                with self.assertRaisesRegex(ValueError, "some words"):
                    raise getattr(errors, name)("some words")

    def test_one_refusal_is_not_taken_for_another(self):
        with self.assertRaises(NoPattern):
            try:
                raise NoPattern("some words")
            except (errors.NotThat, NoLine, Endless):
                self.fail("taken for another refusal")


if __name__ == "__main__":
    unittest.main()
