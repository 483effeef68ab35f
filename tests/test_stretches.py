"""The stretch that is found, points 2 and 6."""

import copy
import itertools
import re
import unittest

from rowblade.patterns import least_length, may_be_empty, pattern
from rowblade.stretches import found, stretch

# (pattern, row, start, the stretch)
FOUND = [
    # empty stretches
    ("", "", 0, (0, 0)), ("", "abc", 0, (0, 0)), ("", "abc", 2, (2, 2)), ("", "abc", 3, (3, 3)),
    ("a*", "", 0, (0, 0)), ("a*", "baa", 0, (0, 0)), ("a*", "baa", 1, (1, 3)), ("a*", "baa", 3, (3, 3)),
    ("a?", "ba", 0, (0, 0)), ("a?", "aa", 0, (0, 1)), ("^a*", "b", 0, (0, 0)), ("a*$", "aab", 0, (3, 3)),
    ("a?$", "aa", 0, (1, 2)), ("b*$", "ab", 0, (1, 2)),
    # the row without signs
    ("a", "", 0, None), ("a+", "", 0, None), (".", "", 0, None), ("[^a]", "", 0, None), ("^", "", 0, (0, 0)),
    ("$", "", 0, (0, 0)), ("^$", "", 0, (0, 0)), ("^.*$", "", 0, (0, 0)), ("^a$", "", 0, None), (".?", "", 0, (0, 0)),
    # front and back
    ("^", "abc", 0, (0, 0)), ("^", "abc", 1, None), ("^", "abc", 3, None), ("$", "abc", 0, (3, 3)),
    ("$", "abc", 3, (3, 3)), ("^$", "a", 0, None), ("^$", "a", 1, None), ("^a", "aba", 0, (0, 1)),
    ("^a", "aba", 2, None), ("^b", "ab", 0, None), ("^b", "ab", 1, None), ("a$", "aba", 0, (2, 3)),
    ("a$", "aba", 3, None), ("b$", "ba", 0, None), ("^aba$", "aba", 0, (0, 3)), ("^ab$", "aba", 0, None),
    ("^ba$", "aba", 0, None), ("^.*$", "aba", 0, (0, 3)), (".*$", "aba", 2, (2, 3)), ("^a*$", "aab", 0, None),
    # the place of the start
    ("a", "aba", 0, (0, 1)), ("a", "aba", 1, (2, 3)), ("a", "aba", 2, (2, 3)), ("a", "aba", 3, None),
    ("ab", "abab", 1, (2, 4)), (".", "abc", 2, (2, 3)), (".", "abc", 3, None), (".*", "abc", 3, (3, 3)),
    ("a+", "aaaa", 2, (2, 4)),
    # the least beginning first, though a later stretch is longer
    ("a+", "abaaa", 0, (0, 1)), ("a*", "aabaaa", 0, (0, 2)), ("b?a+", "abaaa", 0, (0, 1)), ("b+c?", "abbbabc", 0, (1, 4)),
    # then the greatest end, though a shorter one would fit
    ("a+", "aaa", 0, (0, 3)), ("a.*b", "xabxbx", 0, (1, 5)), ("a.+b", "abab", 0, (0, 4)), (".*a", "banana", 0, (0, 6)),
    ("a?a?", "aaa", 0, (0, 2)), ("a?[ab]?b*", "abbbb", 0, (0, 5)), ("a?[ab]?[abc]*c", "abcabcb", 0, (0, 6)),
    ("a*[ab]?c?", "aac", 0, (0, 3)), ("a?ab?", "ab", 0, (0, 2)), ("a?ab?", "aab", 0, (0, 3)), ("a*ab", "aaab", 0, (0, 4)),
    # an item gives back what a later one needs
    ("a*a", "aaa", 0, (0, 3)), ("a?a", "a", 0, (0, 1)), ("a+a+", "a", 0, None), ("a+a+", "aa", 0, (0, 2)),
    (".*.", "ab", 0, (0, 2)), (".+b$", "bab", 0, (0, 3)), ("^.?.?.?$", "abcd", 0, None), ("^.?.?.?$", "abc", 0, (0, 3)),
    # sets, and signs that stand for themselves
    ("[ab]+", "xxbay", 0, (2, 4)), ("[^ab]+", "abxyb", 0, (2, 4)), ("[.]", "a.b", 0, (1, 2)), (".", "a.b", 0, (0, 1)),
    ("[a-c]+", "bc-a", 0, (1, 4)), ("[^-]", "--b", 0, (2, 3)), ("-", "a-b", 0, (1, 2)), ("[$]$", "$a$", 0, (2, 3)),
    ("[*+?]+", "a*?+b", 0, (1, 4)), ("[[]", "a[", 0, (1, 2)), ("[^[]", "[a", 0, (1, 2)), ("A", "aA", 0, (1, 2)),
    (" +", "a  b", 0, (1, 3)), ("\\", "a\\", 0, (1, 2)), ("(a)", "a(a)", 0, (1, 4)), ("a{2}", "aaa{2}", 0, (2, 6)),
    ("a|b", "a|b", 0, (0, 3)), ("[^a]", "aaa", 0, None), ("[ab]", "cde", 0, None), (".", "/^]", 1, (1, 2)),
    ("[^a]+", "/^]$", 0, (0, 4)),
    # none fits
    ("a", "bcd", 0, None), ("ab", "acb", 0, None), ("ab+c", "abbbd", 0, None), ("ab?c", "abbc", 0, None),
]


def fits_by_re(one, row, begin, end):
    """Whether a pattern fits a stretch, straight from the words of point 6."""
    front, items, back = one
    if (front and begin != 0) or (back and end != len(row)):
        return False
    parts = []
    for signs, others, many in items:
        core = "".join("\\" + sign for sign in signs if not sign.isalnum()) + "".join(filter(str.isalnum, signs))
        parts.append("." if signs == "" else "[" + ("^" if others else "") + core + "]")
        parts.append("" if many == "1" else many)
    return re.fullmatch("".join(parts), row[begin:end]) is not None


def stretch_by_re(one, row, start):
    for begin in range(start, len(row) + 1):
        for end in range(len(row), begin - 1, -1):
            if fits_by_re(one, row, begin, end):
                return (begin, end)
    return None


def small_patterns():
    cores = ["a", ".", "[ab]", "[^a]"]
    items = [core + many for core in cores for many in ("", "*", "+", "?")]
    for length in range(3):
        for chosen in itertools.product(items, repeat=length):
            for front in ("", "^"):
                for back in ("", "$"):
                    yield front + "".join(chosen) + back


LONGER_PATTERNS = [
    "a*b*a*b*", "a?b?a?b?a?b?", "a+b*a+", ".*a.*b", "[ab]*c?[^c]+", "a?[ab]?[abc]?c", "^a*[^a]b?c*$", "b+[^b]?b+",
    "a*.a*", "^.?[bc]+a?$", "c*b*a*$", "^[^b]*b[^b]*$", "a.?b.?c", "[^ab]?[^bc]?[^ac]?", "a+a?b+b?", ".+.+.+",
]


def rows_over(signs, longest):
    for length in range(longest + 1):
        for chosen in itertools.product(signs, repeat=length):
            yield "".join(chosen)


class StretchTest(unittest.TestCase):
    def test_stretches(self):
        for text, row, start, told in FOUND:
            with self.subTest(text=text, row=row, start=start):
                answer = stretch(pattern(text), row, start)
                self.assertEqual(answer, told)
                if told is not None:
                    self.assertIs(type(answer), tuple)

    def test_the_start_is_0_where_none_is_told(self):
        for text, row, start, told in FOUND:
            if start == 0:
                with self.subTest(text=text, row=row):
                    self.assertEqual(stretch(pattern(text), row), told)

    def test_the_arguments_go_by_the_names_of_the_interface(self):
        self.assertEqual(stretch(pattern("a"), "aba", start=1), (2, 3))
        self.assertEqual(stretch(one=pattern("a"), row="aba", start=3), None)
        self.assertIs(found(one=pattern("a"), row="aba"), True)

    def test_found(self):
        for text, row, start, told in FOUND:
            if start == 0:
                with self.subTest(text=text, row=row):
                    self.assertIs(found(pattern(text), row), told is not None)

    def test_each_small_pattern_in_each_small_row(self):
        rows = list(rows_over("ab", 3)) + ["aabb", "abab", "bbaa"]
        for text in small_patterns():
            one = pattern(text)
            for row in rows:
                for start in range(len(row) + 1):
                    told = stretch_by_re(one, row, start)
                    if stretch(one, row, start) != told:
                        self.fail(f"{text!r} in {row!r} from {start}: {stretch(one, row, start)}, not {told}")
                self.assertIs(found(one, row), stretch_by_re(one, row, 0) is not None)

    def test_longer_patterns_in_each_row_of_three_signs(self):
        for text in LONGER_PATTERNS:
            one = pattern(text)
            for row in rows_over("abc", 5):
                for start in (0, len(row) // 2, len(row)):
                    told = stretch_by_re(one, row, start)
                    if stretch(one, row, start) != told:
                        self.fail(f"{text!r} in {row!r} from {start}: {stretch(one, row, start)}, not {told}")

    def test_what_may_be_empty_fits_an_empty_stretch_somewhere_and_nothing_else_does(self):
        for text in small_patterns():
            one = pattern(text)
            fits = any(fits_by_re(one, row, at, at) for row in ("", "a") for at in range(len(row) + 1))
            self.assertIs(may_be_empty(one), fits, text)

    def test_no_stretch_is_shorter_than_the_least_length_and_some_is_as_short(self):
        for text in small_patterns():
            one = pattern(text)
            lengths = [told[1] - told[0] for told in (stretch(one, row) for row in rows_over("ab", 3)) if told]
            self.assertEqual(min(lengths), least_length(one), text)

    def test_what_is_handed_over_stays_as_it_was(self):
        for text, row, start, told in FOUND:
            one = pattern(text)
            before = copy.deepcopy(one)
            stretch(one, row, start)
            found(one, row)
            self.assertEqual(one, before)

    def test_the_same_calls_tell_the_same(self):
        one = pattern("a+b?")
        first = [stretch(one, row, start) for text, row, start, told in FOUND]
        one[1].append(("z", False, "1"))
        self.assertIsNone(stretch(one, "ab"))
        one[1].pop()
        self.assertEqual([stretch(one, row, start) for text, row, start, told in FOUND], first)


class LongRowTest(unittest.TestCase):
    ROW = "a" * 400

    def test_where_it_fits(self):
        for text, row, told in [
            ("a*a*a*a*a*a*a*a*", self.ROW, (0, 400)),
            ("a+a+a+a+a+a+a+a+", self.ROW, (0, 400)),
            ("^.*.*.*.*.*.*.*.*$", self.ROW, (0, 400)),
            ("^.+.+.+.+.+.+.+.+$", self.ROW, (0, 400)),
            ("a*a*a*a*a*a*a*b", "a" * 399 + "b", (0, 400)),
            ("[ab]+[^b]*.+a*[^c]+.*a+b", "a" * 399 + "b", (0, 400)),
            ("a*a*a*a*a*a*a*$", "a" * 200 + "b" + "a" * 199, (201, 400)),
            ("b+a*b+a*b+a*b+a*", "ab" * 200, (1, 9)),
            ("b+.*b+.*b+.*b+.*", "ab" * 200, (1, 400)),
            ("a+a+a+a+a+a+a+b+", "a" * 200 + "b" * 100 + "a" * 100, (0, 300)),
            (".*b*", "b" * 400, (0, 400)),
        ]:
            with self.subTest(text):
                self.assertEqual(stretch(pattern(text), row), told)
                self.assertIs(found(pattern(text), row), True)

    def test_where_it_does_not_fit(self):
        for text, row in [
            ("a*a*a*a*a*a*a*b", self.ROW),
            ("a+a+a+a+a+a+a+b", self.ROW),
            ("^a*a*a*a*a*a*a*a*$", "a" * 399 + "b"),
            ("^a+a+a+a+a+a+a+a+$", "a" * 399 + "b"),
            (".*.*.*.*.*.*.*b", self.ROW),
            (".+.+.+.+.+.+.+[^a]", self.ROW),
            ("[ab]*[ab]*[ab]*[ab]*[ab]*[ab]*[ab]*c", "ab" * 200),
            ("b+[^c]+b+[^c]+b+[^c]+b+c", "ab" * 200),
            ("^.+.+.+.+.+.+.+.+$", "aaaaaaa"),
        ]:
            with self.subTest(text):
                self.assertIsNone(stretch(pattern(text), row))
                self.assertIs(found(pattern(text), row), False)

    def test_from_a_start_within(self):
        one = pattern("a*a*a*a*a*a*a*b*")
        for start in (0, 1, 199, 399, 400):
            with self.subTest(start):
                self.assertEqual(stretch(one, self.ROW, start), (start, 400))
        self.assertIsNone(stretch(pattern("a+a+a+a+"), self.ROW, 397))


if __name__ == "__main__":
    unittest.main()
