"""The pieces of a hand, points 24 and 26."""

import itertools
import unittest

from oracle import swapped
from rowblade.patterns import pattern
from rowblade.pieces import every_swapped, first_swapped, number_of, word_of, words_of


class SwapTest(unittest.TestCase):
    def test_as_by_the_words_of_the_point(self):
        texts = ["a", "^a", "a$", "^a$", "a+", "ab", "aa", "a*b", "[ab]", "[^a]+", ".", ".+b", "b?a", "^a+", "b+$"]
        for text in texts:
            one = pattern(text)
            for length in range(6):
                for signs in itertools.product("abc", repeat=length):
                    hand = "".join(signs)
                    self.assertEqual(first_swapped(hand, one, "xy"), swapped(hand, text, "xy", False))
                    for words in ("", "a"):
                        self.assertEqual(every_swapped(hand, one, words), swapped(hand, text, words, True))


class WordTest(unittest.TestCase):
    def test_words(self):
        for hand, told in [
            ("", []), (" ", []), ("   ", []), ("a", ["a"]), (" a", ["a"]), ("a ", ["a"]), ("  a  b   c  ", ["a", "b", "c"]),
            ("a-b /c/ \"d", ["a-b", "/c/", "\"d"]),
        ]:
            with self.subTest(hand):
                self.assertEqual(words_of(hand), told)
                self.assertEqual([word_of(hand, number) for number in range(1, len(told) + 1)], told)
                self.assertIsNone(word_of(hand, len(told) + 1))
                self.assertIsNone(word_of(hand, 9))

    def test_numbers(self):
        for word, told in [
            ("0", 0), ("7", 7), ("007", 7), ("00", 0), ("-7", -7), ("-007", -7), ("-0", 0), ("1234567890", 1234567890),
            ("9" * 60, 10 ** 60 - 1), ("-" + "9" * 60, 1 - 10 ** 60), ("0" * 59 + "1", 1), ("-" + "0" * 59 + "1", -1),
        ]:
            with self.subTest(word):
                self.assertEqual(number_of(word), told)
                self.assertIs(type(number_of(word)), int)

    def test_what_writes_no_number(self):
        for word in [
            "-", "+", "+7", "--7", "7-", "-+7", "7.0", "7,0", "1_0", "a", "7a", "a7", "-a", "0x1", "1e3", "\u0661", "\u00b2",
            "9" * 61, "0" * 61, "-" + "9" * 61, "-" + "0" * 61, "9" * 5000,
        ]:
            with self.subTest(word):
                self.assertIsNone(number_of(word))


if __name__ == "__main__":
    unittest.main()
