"""The kinds of rows, points 2 and 8."""

import copy
import itertools
import random
import unittest

from rowblade.kinds import kinds
from rowblade.patterns import pattern
from rowblade.signs import SIGNS
from rowblade.stretches import found

# (patterns, the truths that there are, each with the number of signs of its row)
TOLD = [
    # one pattern
    (["a"], {(False,): 0, (True,): 1}),
    (["abc"], {(False,): 0, (True,): 3}),
    (["aaaa"], {(False,): 0, (True,): 4}),
    (["a+b+c?d*"], {(False,): 0, (True,): 2}),
    (["^$"], {(False,): 1, (True,): 0}),
    (["^a*$"], {(False,): 1, (True,): 0}),
    (["^.?.?$"], {(False,): 3, (True,): 0}),
    (["^.?.?.?.?$"], {(False,): 5, (True,): 0}),
    (["^[^a]"], {(False,): 0, (True,): 1}),
    (["[^a]$"], {(False,): 0, (True,): 1}),
    (["^[ab]*$"], {(False,): 1, (True,): 0}),
    (["^[^ab]*$"], {(False,): 1, (True,): 0}),
    (["^a+.*b$"], {(False,): 0, (True,): 2}),
    (["^....$"], {(False,): 0, (True,): 4}),
    # patterns that every row has
    ([""], {(True,): 0}),
    (["^"], {(True,): 0}),
    (["$"], {(True,): 0}),
    (["a*"], {(True,): 0}),
    (["[^a]?b*$"], {(True,): 0}),
    (["^.*$"], {(True,): 0}),
    (["^a?"], {(True,): 0}),
    # alike ones
    (["a", "a"], {(False, False): 0, (True, True): 1}),
    (["a", "a", "a"], {(False, False, False): 0, (True, True, True): 1}),
    (["a", "", "a"], {(False, True, False): 0, (True, True, True): 1}),
    ([".", "[^a]*.", "[ab]?.+"], {(False, False, False): 0, (True, True, True): 1}),
    # two
    (["a", "b"], {(False, False): 0, (False, True): 1, (True, False): 1, (True, True): 2}),
    (["^$", "."], {(False, True): 1, (True, False): 0}),
    (["ab", "ba"], {(False, False): 0, (False, True): 2, (True, False): 2, (True, True): 3}),
    (["a", "aa"], {(False, False): 0, (True, False): 1, (True, True): 2}),
    (["^a", "^b"], {(False, False): 0, (False, True): 1, (True, False): 1}),
    (["a$", "b$"], {(False, False): 0, (False, True): 1, (True, False): 1}),
    (["^a", "b$"], {(False, False): 0, (False, True): 1, (True, False): 1, (True, True): 2}),
    (["^a$", "a"], {(False, False): 0, (False, True): 2, (True, True): 1}),
    (["^ab?a$", "aba"], {(False, False): 0, (False, True): 4, (True, False): 2, (True, True): 3}),
    (["[ab]", "[bc]"], {(False, False): 0, (False, True): 1, (True, False): 1, (True, True): 1}),
    (["[ab]", "[^ab]"], {(False, False): 0, (False, True): 1, (True, False): 1, (True, True): 2}),
    # only a sign outside of all sets tells these apart
    (["^[abc]*$", "[abc]"], {(False, False): 1, (False, True): 2, (True, False): 0, (True, True): 1}),
    (["[^abcdefghijkl]", "[^mnopqrstuvwx]"], {(False, False): 0, (False, True): 1, (True, False): 1, (True, True): 1}),
    (["^[^a]$", "^[^b]$", "^[^c]$"], {
        (False, False, False): 0, (False, True, True): 1, (True, False, True): 1, (True, True, False): 1,
        (True, True, True): 1,
    }),
    # three
    (["a", "b", "[ab]"], {
        (False, False, False): 0, (False, True, True): 1, (True, False, True): 1, (True, True, True): 2,
    }),
    (["^a.*b$", "ba", "^.?.?.?$"], {
        (False, False, False): 4, (False, False, True): 0, (False, True, False): 4, (False, True, True): 2,
        (True, False, False): 4, (True, False, True): 2, (True, True, False): 4,
    }),
    (["abab", "baba", "bbaa"], {
        (False, False, False): 0, (False, False, True): 4, (False, True, False): 4, (False, True, True): 9,
        (True, False, False): 4, (True, False, True): 7, (True, True, False): 5, (True, True, True): 8,
    }),
]


def read_all(texts):
    return [pattern(text) for text in texts]


def truths_of(patterns, row):
    return tuple(found(one, row) for one in patterns)


def rows_over(signs, longest):
    for length in range(longest + 1):
        for chosen in itertools.product(signs, repeat=length):
            yield "".join(chosen)


class KindsTest(unittest.TestCase):
    def check_told(self, patterns, told):
        """Each row has its truths, each kind comes once and in order, and all is of the kinds promised."""
        self.assertIs(type(told), list)
        self.assertEqual([truths for truths, row in told], sorted({truths for truths, row in told}))
        for kind in told:
            self.assertIs(type(kind), tuple)
            truths, row = kind
            self.assertIs(type(truths), tuple)
            self.assertTrue(all(type(truth) is bool for truth in truths))
            self.assertIs(type(row), str)
            self.assertEqual(set(row) - set(SIGNS), set())
            self.assertEqual(truths_of(patterns, row), truths)

    def check_against_rows(self, patterns, told, rows, longest):
        """No row with the same truths has fewer signs; the rows come from the shortest on."""
        least = {}
        for row in rows:
            least.setdefault(truths_of(patterns, row), len(row))
        lengths = {truths: len(row) for truths, row in told}
        for truths, length in least.items():
            self.assertEqual(lengths[truths], length)
        for truths, length in lengths.items():
            self.assertTrue(truths in least or length > longest)

    def test_no_patterns(self):
        self.assertEqual(kinds([]), [((), "")])

    def test_told(self):
        for texts, lengths in TOLD:
            with self.subTest(texts):
                patterns = read_all(texts)
                told = kinds(patterns)
                self.check_told(patterns, told)
                self.assertEqual({truths: len(row) for truths, row in told}, lengths)

    def test_the_order_of_the_truths(self):
        for many in (1, 2, 3):
            told = kinds(read_all("abc"[:many]))
            self.assertEqual([truths for truths, row in told], list(itertools.product((False, True), repeat=many)))
        self.assertEqual(kinds(read_all(["^$", "a"]))[-1], ((True, False), ""))

    def test_the_rows_where_only_one_has_the_truths(self):
        self.assertEqual(kinds(read_all(["^ab$", "b"]))[-1], ((True, True), "ab"))
        self.assertEqual(kinds(read_all(["^a$", "^b$"]))[1:], [((False, True), "b"), ((True, False), "a")])
        self.assertEqual(kinds(read_all(["[$]", "[*][.]"]))[1:], [
            ((False, True), "*."), ((True, False), "$"), ((True, True), kinds(read_all(["[$]", "[*][.]"]))[3][1]),
        ])

    def test_signs_at_the_edges_of_all_signs(self):
        self.assertEqual(kinds(read_all([" "])), [((False,), ""), ((True,), " ")])
        self.assertEqual(kinds(read_all(["~"])), [((False,), ""), ((True,), "~")])
        self.assertEqual(kinds(read_all(["[$]"])), [((False,), ""), ((True,), "$")])
        self.assertEqual(kinds(read_all(["\"\\"])), [((False,), ""), ((True,), "\"\\")])

    def test_a_sign_that_stands_outside_of_many_sets(self):
        # Three patterns of four sets with twelve signs each leave out just a few signs.
        free = "~}"
        left = [sign for sign in SIGNS if sign not in "]^/" + free]
        sets = ["[^" + "".join(left[at:at + 12]) + "]" for at in range(0, len(left), 12)]
        texts = ["^" + "".join(sets[:4]) + "$", "^" + "".join(sets[4:]) + ".?$"]
        told = dict(kinds(read_all(texts)))
        self.assertEqual(len(told[(True, True)]), 4)
        self.assertEqual(set(told), set(itertools.product((False, True), repeat=2)))

    def test_each_pattern_of_up_to_two_items(self):
        cores = ["a", ".", "[ab]", "[^a]"]
        items = [core + many for core in cores for many in ("", "*", "+", "?")]
        rows = list(rows_over("abc", 4))
        for length in range(3):
            for chosen in itertools.product(items, repeat=length):
                text = "".join(chosen)
                for front, back in itertools.product(("", "^"), ("", "$")):
                    patterns = read_all([front + text + back])
                    told = kinds(patterns)
                    self.check_told(patterns, told)
                    self.check_against_rows(patterns, told, rows, 4)

    def test_many_lists_of_patterns_against_all_short_rows(self):
        chance = random.Random(8)
        cores = ["a", "b", ".", "[ab]", "[^a]", "[^ab]", "c", "[bc]"]
        rows = list(rows_over("abcd", 4))
        for again in range(150):
            texts = []
            for number in range(chance.randint(1, 3)):
                items = [chance.choice(cores) + chance.choice(["", "", "*", "+", "?"]) for at in range(chance.randint(0, 4))]
                texts.append(chance.choice(["", "^"]) + "".join(items) + chance.choice(["", "$"]))
            with self.subTest(texts):
                patterns = read_all(texts)
                told = kinds(patterns)
                self.check_told(patterns, told)
                self.check_against_rows(patterns, told, rows, 4)

    def test_patterns_of_four_items_with_many_unlike_sets_take_no_long_time(self):
        texts = [
            "[abcdefghijkl].*[amnopqrstuvw].$", ".[bmABCDEFGHIJ].+[cnAKLMNOPQRS]$",
            "[doBKTUVWXYZ0].[epCLT1234567]?[fqDMU189!#&,]$",
        ]
        patterns = read_all(texts)
        told = kinds(patterns)
        self.check_told(patterns, told)
        self.assertEqual(len(told), 8)

    def test_what_was_handed_in_stays(self):
        for texts, lengths in TOLD:
            patterns = read_all(texts)
            before = copy.deepcopy(patterns)
            kinds(patterns)
            self.assertEqual(patterns, before)

    def test_the_list_told_may_be_changed(self):
        for texts in ([], ["a"], ["a", "b$", "^c"]):
            first = kinds(read_all(texts))
            mine = list(first)
            first.clear()
            again = kinds(read_all(texts))
            self.assertEqual(again, mine)
            again.append("more")
            self.assertEqual(kinds(read_all(texts)), mine)

    def test_the_same_calls_tell_the_same(self):
        patterns = read_all(["^a", "b+$"])
        first = kinds(patterns)
        patterns.append(pattern("c"))
        self.assertEqual(len(kinds(patterns)[0][0]), 3)
        patterns.pop()
        self.assertEqual(kinds(patterns), first)
        self.assertEqual(kinds(patterns=patterns), first)


if __name__ == "__main__":
    unittest.main()
