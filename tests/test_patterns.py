"""Patterns, points 2, 4, 5 and 7: read, refused, written, and how little they may fit."""

import copy
import itertools
import unittest

from rowblade.errors import BladeError, NoPattern
from rowblade.patterns import least_length, may_be_empty, pattern, written

SIGNS = "".join(chr(code) for code in range(ord(" "), ord("~") + 1) if chr(code) != "%")
NO_SIGNS = [chr(code) for code in range(0x300) if chr(code) not in SIGNS]
NO_SIGNS += ["\u2028", "\u3042", "\ud800", "\U0001f600"]
NEVER_PLAIN = "^$.[]*+?/"
NEVER_IN_A_SET = "]^/"

TOLD = {
    "": (False, [], False),
    "^": (True, [], False),
    "$": (False, [], True),
    "^$": (True, [], True),
    "a": (False, [("a", False, "1")], False),
    "^a": (True, [("a", False, "1")], False),
    "a$": (False, [("a", False, "1")], True),
    "^a$": (True, [("a", False, "1")], True),
    " ": (False, [(" ", False, "1")], False),
    ".": (False, [("", True, "1")], False),
    ".*": (False, [("", True, "*")], False),
    "a*b+c?d": (False, [("a", False, "*"), ("b", False, "+"), ("c", False, "?"), ("d", False, "1")], False),
    "[ab]": (False, [("ab", False, "1")], False),
    "[ba]": (False, [("ba", False, "1")], False),
    "[^a]": (False, [("a", True, "1")], False),
    "[^ba]+": (False, [("ba", True, "+")], False),
    "[.]": (False, [(".", False, "1")], False),
    "[^.]?": (False, [(".", True, "?")], False),
    "[$]": (False, [("$", False, "1")], False),
    "[[]": (False, [("[", False, "1")], False),
    "[[a]": (False, [("[a", False, "1")], False),
    "[.$*+?[]*": (False, [(".$*+?[", False, "*")], False),
    "[^.$*+?[]$": (False, [(".$*+?[", True, "1")], True),
    "^[$]$": (True, [("$", False, "1")], True),
    "^[^a]$": (True, [("a", True, "1")], True),
    "[a-]": (False, [("a-", False, "1")], False),
    "[a-c]": (False, [("a-c", False, "1")], False),
    "[^-]": (False, [("-", True, "1")], False),
    "-": (False, [("-", False, "1")], False),
    "a1": (False, [("a", False, "1"), ("1", False, "1")], False),
    "1*": (False, [("1", False, "*")], False),
    "[abcdefghijkl]": (False, [("abcdefghijkl", False, "1")], False),
    "[^abcdefghijkl]": (False, [("abcdefghijkl", True, "1")], False),
    "abcdefgh": (False, [(sign, False, "1") for sign in "abcdefgh"], False),
    "^a*b*c*d*e*f*g*h*$": (True, [(sign, False, "*") for sign in "abcdefgh"], True),
    "\"\\'{}()|": (False, [(sign, False, "1") for sign in "\"\\'{}()|"], False),
}

REFUSED = [
    # more than eight items
    "abcdefghi", "^abcdefghi$", "a*b*c*d*e*f*g*h*i*", "[ab].......[^a]", ".........",
    # sets of no sign, of too many, of a sign twice
    "[]", "[^]", "[]a]", "[^]a]", "[abcdefghijklm]", "[^abcdefghijklm]", "[aa]", "[^aa]", "[aba]", "[..]", "[^--]",
    # a set of one sign that may stand plain
    "[a]", "[-]", "[ ]", "[1]", "[\"]", "[\\]", "[a]*", "^[a]$", "b[a]",
    # signs that no set has
    "[a^]", "[ab^c]", "[^^]", "[^a^]", "[^^a]", "[a/]", "[/]", "[^/]", "[/a]", "[a]]", "[ab]]",
    # sets that aren't closed
    "[", "[a", "[ab", "[^", "[^a", "a[", "[$", "[a$", "[^$", "[[", "[ab][", "[ab", "^[", "^[ab$",
    # no item ahead, or two behind one item
    "*", "+", "?", "^*", "^+a", "^?$", "*a", "a**", "a++", "a??", "a*+", "a+?", "a?*", ".**", "[ab]*?", "a*?b",
    # ^ and $ at other places
    "a^", "a^b", "^^", "^^a", "$a", "$$", "a$$", "a$b", "$^", "a$*", "^$^", "$*", "^a^$", "a^$",
    # signs that are never plain
    "]", "a]", "/", "a/b", "^/", "/$",
    # what is no sign
    "%", "a%", "[%a]", "[^%]", "\t", "a\t", "\n", "a\n", "^a$\n", "\na", "a\nb", "[a\n]", "[^\t]", "\r", "a\x7f", "\u00e9",
    "[^\u00e9]", "\x00",
]

NO_TEXTS = [None, 0, 1, 7, True, False, [], ["a"], (), ("a",), {}, b"a", 1.5, (False, [], False), {"a"}, object()]


class SignTest(unittest.TestCase):
    def test_each_sign_that_may_stand_plain(self):
        for sign in SIGNS:
            if sign not in NEVER_PLAIN:
                with self.subTest(sign):
                    self.assertEqual(pattern("x" + sign), (False, [("x", False, "1"), (sign, False, "1")], False))

    def test_each_sign_in_a_set(self):
        for sign in SIGNS:
            with self.subTest(sign):
                if sign in NEVER_IN_A_SET:
                    self.refuse("[^" + sign + "]")
                    self.refuse("[xy" + sign + "]")
                else:
                    self.assertEqual(pattern("[^" + sign + "]"), (False, [(sign, True, "1")], False))

    def test_a_set_of_one_sign_where_it_may_not_stand_plain(self):
        for sign in SIGNS:
            with self.subTest(sign):
                if sign in NEVER_PLAIN and sign not in NEVER_IN_A_SET:
                    self.assertEqual(pattern("[" + sign + "]"), (False, [(sign, False, "1")], False))
                else:
                    self.refuse("[" + sign + "]")

    def test_what_is_no_sign_is_refused_wherever_it_stands(self):
        for sign in NO_SIGNS:
            with self.subTest(repr(sign)):
                for text in (sign, "a" + sign, sign + "a", "[^" + sign + "]", "[ab" + sign + "]", "^" + sign, sign + "$"):
                    self.refuse(text)

    def refuse(self, text):
        with self.assertRaises(NoPattern):
            pattern(text)


class ReadTest(unittest.TestCase):
    def test_told(self):
        for text, told in TOLD.items():
            with self.subTest(text):
                self.assertEqual(pattern(text), told)

    def test_the_kinds_of_what_is_told(self):
        for text in TOLD:
            with self.subTest(text):
                one = pattern(text)
                self.assertIs(type(one), tuple)
                self.assertIs(type(one[0]), bool)
                self.assertIs(type(one[1]), list)
                self.assertIs(type(one[2]), bool)
                for item in one[1]:
                    self.assertIs(type(item), tuple)
                    self.assertEqual([type(part) for part in item], [str, bool, str])

    def test_refused(self):
        for text in REFUSED:
            with self.subTest(repr(text)):
                with self.assertRaises(NoPattern):
                    pattern(text)

    def test_the_arguments_go_by_the_names_of_the_interface(self):
        one = pattern(text="^a+b?$")
        self.assertEqual(one, (True, [("a", False, "+"), ("b", False, "?")], True))
        self.assertEqual(written(one=one), "^a+b?$")
        self.assertIs(may_be_empty(one=one), False)
        self.assertEqual(least_length(one=one), 1)

    def test_no_texts_are_refused(self):
        for thing in NO_TEXTS:
            with self.subTest(repr(thing)):
                with self.assertRaises(NoPattern):
                    pattern(thing)

    def test_the_refusal_is_a_blade_error_and_a_value_error(self):
        for kind in (BladeError, ValueError):
            with self.assertRaises(kind):
                pattern("[a]")

    def test_eight_items_of_any_kind_but_not_nine(self):
        for item in ("a", ".", "[ab]", "[^a]", "a*", ".+", "[.]?", "[^abcdefghijkl]*"):
            for front in ("", "^"):
                for back in ("", "$"):
                    with self.subTest(item + front + back):
                        self.assertEqual(len(pattern(front + item * 8 + back)[1]), 8)
                        with self.assertRaises(NoPattern):
                            pattern(front + item * 9 + back)

    def test_sets_of_every_size(self):
        letters = "abcdefghijklmnop"
        for size in range(len(letters) + 1):
            for others in (False, True):
                text = ("[^" if others else "[") + letters[:size] + "]"
                with self.subTest(text):
                    if 1 <= size <= 12 and (others or size > 1):
                        self.assertEqual(pattern(text), (False, [(letters[:size], others, "1")], False))
                    else:
                        with self.assertRaises(NoPattern):
                            pattern(text)


class WrittenTest(unittest.TestCase):
    def test_written_as_it_was_read(self):
        for text in TOLD:
            with self.subTest(text):
                self.assertEqual(written(pattern(text)), text)

    def test_written_from_a_tuple_made_by_hand(self):
        for text, told in TOLD.items():
            with self.subTest(text):
                self.assertEqual(written(copy.deepcopy(told)), text)

    def test_just_one_written_form(self):
        seen = {}
        for length in range(6):
            for signs in itertools.product("a.^$[]*", repeat=length):
                text = "".join(signs)
                try:
                    one = pattern(text)
                except NoPattern:
                    continue
                self.assertEqual(written(one), text)
                self.assertNotIn(repr(one), seen)
                seen[repr(one)] = text
        self.assertGreater(len(seen), 100)

    def test_what_is_handed_over_stays_as_it_was(self):
        for text, told in TOLD.items():
            one = copy.deepcopy(told)
            written(one)
            may_be_empty(one)
            least_length(one)
            self.assertEqual(one, told, text)

    def test_the_list_told_to_another_may_be_changed(self):
        for text, told in TOLD.items():
            with self.subTest(text):
                mine = pattern(text)
                pattern(text)[1].append(("z", False, "*"))
                theirs = pattern(text)
                theirs[1].clear()
                self.assertEqual(mine, told)
                self.assertEqual(written(mine), text)
                self.assertEqual(pattern(text), told)
                self.assertIsNot(pattern(text)[1], pattern(text)[1])

    def test_the_same_calls_tell_the_same(self):
        for again in range(3):
            for text, told in TOLD.items():
                self.assertEqual(pattern(text), told)
                self.assertEqual(written(told), text)


class LeastTest(unittest.TestCase):
    LENGTHS = {
        "": 0, "^": 0, "$": 0, "^$": 0,
        "a*": 0, "a?": 0, ".*": 0, "[ab]?": 0, "[^a]*": 0, "^a*b?$": 0, "a*b*c*d*e*f*g*h*": 0, "a?b?c?d?e?f?g?h?": 0,
        "a": 1, "a+": 1, ".": 1, ".+": 1, "[ab]": 1, "[^abc]+": 1, "^a$": 1, "[.]": 1, "[*]": 1, "[?]": 1, "[*?]*b": 1,
        "a*b": 1, "ab*": 1, "a?b+": 1, "a+b?": 1, "a*b*c*d+e*f*g*h*": 1, "a*b*c*d*e*f*g*h": 1,
        "ab": 2, "a+b+": 2, "ab?c": 2, "^[^a].*[ab]+$": 2, "abcdefgh": 8, "a+b+c+d+e+f+g+h+": 8, "aaaa*": 3,
    }

    def test_least_length(self):
        for text, length in self.LENGTHS.items():
            with self.subTest(text):
                self.assertEqual(least_length(pattern(text)), length)
                self.assertIs(type(least_length(pattern(text))), int)

    def test_may_be_empty(self):
        for text, length in self.LENGTHS.items():
            with self.subTest(text):
                self.assertIs(may_be_empty(pattern(text)), length == 0)


if __name__ == "__main__":
    unittest.main()
