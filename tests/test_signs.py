"""The signs, point 2."""

import unittest

from rowblade.signs import FIGURES, SIGNS, SMALL_LETTERS, beginning_of, made_of


class SignsTest(unittest.TestCase):
    def test_all_from_the_blank_to_the_tilde_but_the_percent_sign(self):
        self.assertEqual(sorted(SIGNS), [chr(code) for code in range(32, 127) if code != 37])

    def test_the_letters_and_the_figures(self):
        self.assertEqual(SMALL_LETTERS, "".join(map(chr, range(97, 123))))
        self.assertEqual(FIGURES, "".join(map(str, range(10))))

    def test_made_of(self):
        self.assertIs(made_of("", FIGURES), True)
        self.assertIs(made_of("0190", FIGURES), True)
        self.assertIs(made_of("01a", FIGURES), False)
        self.assertIs(made_of("\u0661", FIGURES), False)

    def test_beginning_of(self):
        for text, told in [("", ""), ("a1", ""), ("12a3", "12"), ("123", "123"), ("\u0661", "")]:
            self.assertEqual(beginning_of(text, FIGURES), told)


if __name__ == "__main__":
    unittest.main()
