"""The deeds, points 24 to 27."""

import unittest

from helpers import brief, given, walked
from rowblade.reading import read
from rowblade.walk import run, walk


class HandTest(unittest.TestCase):
    def check(self, lines, rows, told):
        with self.subTest(lines=lines, rows=rows):
            self.assertEqual(given(lines, rows), told)

    def test_drop(self):
        self.check(["drop"], ["a", "b"], [])
        self.check(["/a/: drop", "say \"x\""], ["a", "b"], ["x", "b"])
        self.check(["print", "drop", "say \"x\""], ["a"], ["a"])

    def test_print(self):
        self.check(["print"], ["a", ""], ["a", "a", "", ""])
        self.check(["print", "print"], ["a"], ["a", "a", "a"])
        self.check(["print", "swap /a/ \"b\"", "print"], ["a"], ["a", "b", "b"])

    def test_done(self):
        self.check(["done", "say \"x\""], ["a", "b"], ["a", "b"])
        self.check(["/a/: done", "say \"x\""], ["a", "b"], ["a", "x", "b"])
        self.check(["print", "done"], ["a"], ["a", "a"])

    def test_say(self):
        self.check(["say \"x y\""], ["a", "b"], ["x y", "a", "x y", "b"])
        self.check(["say \"\"", "drop"], ["a"], [""])

    def test_swap_of_the_first_stretch_alone(self):
        for line, hand, told in [
            ("swap /a/ \"x\"", "baa", "bxa"), ("swap /a+/ \"x\"", "baab", "bxb"), ("swap /a/ \"\"", "aab", "ab"),
            ("swap /a/ \"aa\"", "ba", "baa"), ("swap /c/ \"x\"", "ab", "ab"), ("swap /^a/ \"x\"", "aa", "xa"),
            ("swap /^a/ \"x\"", "ba", "ba"), ("swap /a$/ \"x\"", "aa", "ax"), ("swap /a.*b/ \"\"", "xabcbx", "xx"),
            ("swap /./ \"" + "y" * 40 + "\"", "a", "y" * 40), ("swap /./ \"x\"", "", ""), ("swap /^.+$/ \"\"", "ab", ""),
            ("swap /b?a+/ \"-\"", "abaaa", "-baaa"), ("swap / / \"\"", "a b c", "ab c"),
        ]:
            self.check([line], [hand], [told])

    def test_swap_every(self):
        for line, hand, told in [
            ("swap every /a/ \"x\"", "abca", "xbcx"), ("swap every /a/ \"\"", "abca", "bc"), ("swap every /a/ \"\"", "aaa", ""),
            ("swap every /a/ \"x\"", "aaa", "xxx"), ("swap every /aa/ \"x\"", "aaaaa", "xxa"),
            ("swap every /aa/ \"a\"", "aaaa", "aa"), ("swap every /ab/ \"b\"", "aabb", "abb"), ("swap every /c/ \"x\"", "ab", "ab"),
            ("swap every /^a/ \"\"", "aaa", "aa"), ("swap every /^a/ \"x\"", "aaa", "xaa"), ("swap every /^a/ \"x\"", "baa", "baa"),
            ("swap every /a$/ \"x\"", "aaa", "aax"), ("swap every /a+$/ \"x\"", "abaa", "abx"),
            ("swap every /^.$/ \"x\"", "a", "x"), ("swap every /a+/ \"x\"", "aabaaa", "xbx"), ("swap every /./ \"\"", "abc", ""),
            ("swap every /a.?/ \"a\"", "aaaaa", "aaa"), ("swap every /b?a+/ \"-\"", "abaaab", "--b"),
            ("swap every /[^ ]+/ \"w\"", " ab  c d", " w  w w"), ("swap every /a./ \"xy\"", "aab", "xyb"),
            ("swap every /./ \"x\"", "", ""), ("swap every /aba/ \"c\"", "ababa", "cba"), ("swap every /a.*/ \"b\"", "caaa", "cb"),
        ]:
            self.check([line], [hand], [told])

    def test_swaps_one_behind_the_other(self):
        self.check(["swap /a/ \"b\"", "swap every /b/ \"c\"", "swap /c/ \"dd\""], ["aab"], ["ddac"])

    def test_swap_sees_the_hand_as_it_is(self):
        self.check(["row 1: join 2", "swap every / / \"-\"", "swap /a-b/ \"x\""], ["a", "b c"], ["x-c"])
        self.check(["row 1: join 2", "swap every /^a/ \"x\"", "swap every /a$/ \"y\""], ["a", "a"], ["x y"])

    def test_join(self):
        rows = list("abcdefghijk")
        self.check(["mark m", "join 2", "go m"], rows, ["a b", "c d", "e f", "g h", "i j", "k"])
        for most in range(2, 10):
            told = [" ".join(rows[at:at + most]) for at in range(0, len(rows), most)]
            self.check(["mark m", f"join {most}", "go m"], rows, told)

    def test_a_join_is_met_once_unless_a_go_leads_back(self):
        self.check(["join 9"], list("abcde"), ["a b", "c d", "e"])
        self.check(["join 9", "join 9", "join 9"], list("abcde"), ["a b c d", "e"])

    def test_two_joins(self):
        self.check(["join 2", "join 2", "say \"x\""], list("abc"), ["a b", "c"])
        self.check(["join 3", "join 2", "say \"x\""], list("abc"), ["a b", "c"])
        self.check(["join 2", "join 3", "say \"x\""], list("abcd"), ["x", "a b c", "d"])
        self.check(["join 3", "join 3", "say \"x\""], list("abcde"), ["x", "a b c", "d e"])

    def test_join_at_the_end_ends_the_turn(self):
        self.check(["join 2", "say \"x\""], ["a"], ["a"])
        self.check(["print", "last: join 2", "say \"x\""], ["a", "b"], ["a", "x", "a", "b", "b"])

    def test_join_of_empty_rows(self):
        self.check(["join 2"], ["", "", ""], [" ", ""])
        self.check(["join 2"], ["a", ""], ["a "])

    def test_join_with_a_hand_put_otherwise(self):
        self.check(["swap /a/ \"x\"", "join 2", "swap /a/ \"y\""], ["a", "a", "a"], ["x y", "x"])

    def test_print_ahead_of_a_join(self):
        self.check(["print", "join 2"], ["a", "b", "c"], ["a", "a b", "c", "c"])

    def test_join_lines_go_on_behind_it(self):
        lines = ["say \"1\"", "join 2", "say \"2\""]
        self.check(lines, ["a", "b", "c"], ["1", "2", "a b", "1", "c"])

    def test_a_hand_of_many_signs(self):
        rows = ["ab" * 200] * 18
        hand = " ".join(["ab" * 200] * 9)
        self.assertGreater(len(hand), 3000)
        self.check(["mark m", "join 9", "go m"], rows, [hand] * 2)
        lines = ["mark m", "not row 9: join 9", "not row 9: go m", "swap every /a/ \"\"", "swap every /b./ \"c\"", "done"]
        self.assertEqual(given(lines, rows)[0], " ".join(["b" * 200] * 9).replace("bb", "c").replace("b ", "c"))
        self.check(["mark m", "not row 9: join 9", "not row 9: go m", "swap every /[^x]/ \"y\""], rows[:9], ["y" * len(hand)])
        self.check(["mark m", "not row 9: join 9", "not row 9: go m", "swap /.*.*.*.*.*.+/ \"z\""], rows[:9], ["z"])


class ShelfTest(unittest.TestCase):
    def check(self, lines, rows, told):
        with self.subTest(lines=lines, rows=rows):
            self.assertEqual(given(lines, rows), told)

    def test_pile_and_bring(self):
        self.check(["pile s", "drop", "end: bring s"], list("abc"), list("abc"))
        self.check(["pile s", "row 2: bring s", "drop"], list("abc"), ["a", "b"])
        self.check(["pile s", "pile s", "drop", "end: bring s"], list("ab"), list("aabb"))

    def test_the_hand_stays_as_it_is(self):
        self.check(["pile s"], list("ab"), list("ab"))
        self.check(["pile s", "join 2", "end: bring s"], list("ab"), ["a b", "a"])

    def test_with_a_number(self):
        for most in range(1, 10):
            rows = list("abcdefghijk")
            self.check([f"pile s {most}", "drop", "end: bring s"], rows, rows[-most:])
        self.check(["pile s 9", "drop", "end: bring s"], list("ab"), list("ab"))

    def test_a_lesser_number_behind(self):
        self.check(["not last: pile s", "last: pile s 2", "drop", "end: bring s"], list("abcde"), list("de"))
        self.check(["row 1: pile s 1", "not row 1: pile s", "drop", "end: bring s"], list("abc"), list("abc"))

    def test_bring_of_an_empty_shelf(self):
        self.check(["bring s"], list("ab"), list("ab"))
        self.check(["end: bring s"], [], [])
        self.check(["pile t", "drop", "end: bring s"], list("ab"), [])

    def test_bring_twice(self):
        self.check(["pile s", "last: bring s", "last: bring s", "drop"], list("ab"), list("ab"))
        self.check(["pile s", "drop", "end: bring s", "end: say \"x\"", "end: bring s"], list("ab"), ["a", "b", "x"])
        self.check(["pile s", "row 2: bring s", "drop", "end: bring s"], list("abc"), list("abc"))

    def test_shelves_by_their_names(self):
        lines = ["/a/: pile s", "/b/: pile t", "drop", "end: bring t", "end: bring s"]
        self.check(lines, ["a1", "b1", "a2", "b2"], ["b1", "b2", "a1", "a2"])

    def test_a_thing_stays_as_it_was(self):
        lines = ["pile s", "swap /a/ \"x\"", "pile s", "swap /x/ \"y\"", "end: bring s"]
        self.check(lines, ["a"], ["y", "a", "x"])

    def test_a_thing_of_several_rows_is_one(self):
        lines = ["join 2", "pile s 1", "drop", "end: bring s"]
        self.check(lines, list("abcd"), ["c d"])

    def test_an_empty_thing(self):
        self.check(["pile s", "drop", "end: bring s"], ["", ""], ["", ""])

    def test_shelves_are_empty_at_the_beginning_of_each_walk(self):
        program = read("pile s\nrow 2: bring s\ndrop\n")
        self.assertEqual(run(program, "a\n"), "")
        self.assertEqual(run(program, "b\nc\n"), "b\nc\n")

    def test_go_ahead_and_back(self):
        self.check(["/a/: go m", "say \"x\"", "mark m", "print"], list("ab"), ["a", "a", "x", "b", "b"])
        lines = ["go n", "mark m", "say \"2\"", "done", "mark n", "say \"1\"", "go m"]
        self.check(lines, ["a"], ["1", "2", "a"])
        self.check(["mark m", "join 3", "not last: go m", "say \"x\""], list("ab"), ["x", "a b"])

    def test_a_go_that_is_not_true(self):
        self.check(["/z/: go m", "say \"x\"", "mark m"], ["a"], ["x", "a"])


class BoxTest(unittest.TestCase):
    def check(self, lines, rows, boxes, faults):
        with self.subTest(lines=lines, rows=rows):
            told = walked(lines, rows)
            self.assertEqual(told[1], boxes)
            self.assertEqual(told[2], faults)

    def test_add(self):
        self.check(["add 1 2"], ["a 1", "b 2", "a 3"], {"a": 4, "b": 2}, [])
        self.check(["add 2 1"], ["1 a", "2 b"], {"a": 1, "b": 2}, [])
        self.check(["add 1 1"], ["7", "7", "07"], {"7": 14, "07": 7}, [])
        self.check(["add 9 8"], ["1 2 3 4 5 6 7 8 i"], {"i": 8}, [])
        self.check(["add 1 2", "add 1 2"], ["a 1"], {"a": 2}, [])

    def test_the_hand_stays_and_nothing_is_given(self):
        self.assertEqual(given(["add 1 2"], ["a  1"]), ["a  1"])

    def test_words(self):
        self.check(["add 1 2"], ["  a   5  ", "a 5", "  a  5"], {"a": 15}, [])
        self.check(["add 1 3"], ["a   b   7"], {"a": 7}, [])
        self.check(["add 1 2"], ["x,/\"y: 1"], {"x,/\"y:": 1}, [])

    def test_numbers(self):
        for word, number in [
            ("0", 0), ("00", 0), ("-0", 0), ("007", 7), ("-007", -7), ("-12", -12), ("9" * 60, 10 ** 60 - 1),
            ("-" + "9" * 60, 1 - 10 ** 60), ("0" * 59 + "5", 5), ("-" + "0" * 60, 0),
        ]:
            self.check(["add 1 2"], ["a " + word], {"a": number}, [])

    def test_what_writes_no_number(self):
        for word in ("-", "+1", "--1", "1-", "1.0", "1,", "a", "1a", "-a", "9" * 61, "0" * 61, "-" + "9" * 61, "1_0", "1e2"):
            self.check(["add 1 2"], ["a " + word], {}, [(1, 1)])

    def test_a_sum_beyond_sixty_figures(self):
        self.check(["add 1 2", "add 1 2"], ["a " + "9" * 60] * 2, {"a": 4 * (10 ** 60 - 1)}, [])
        self.assertEqual(given(["add 1 2", "drop", "end: tell"], ["a " + "9" * 60] * 2), ["a 1" + "9" * 59 + "8"])

    def test_no_word(self):
        self.check(["add 1 2"], ["", " ", "a", "a ", " a"], {}, [(row, 1) for row in range(1, 6)])
        self.check(["add 2 1"], ["1"], {}, [(1, 1)])
        self.check(["add 3 2"], ["a 1", "a 1 b"], {"b": 1}, [(1, 1)])
        self.check(["add 9 9"], ["1 2 3 4 5 6 7 8"], {}, [(1, 1)])

    def test_a_fault_at_a_box_that_is_there(self):
        self.check(["add 1 2"], ["a 1", "a x", "a 2"], {"a": 3}, [(2, 1)])

    def test_the_row_and_the_line_of_a_fault(self):
        self.check(["mark m", "end: tell", "/x/: add 1 2", "add 3 2"], ["x", "a 1 b"], {"b": 1}, [(1, 3), (1, 4)])
        self.check(["join 2", "add 1 3"], ["a", "b", "c", "d"], {}, [(2, 2), (4, 2)])
        self.check(["add 1 2", "join 2", "add 1 4"], ["a", "b", "c", "d"], {}, [(1, 1), (2, 3), (3, 1), (4, 3)])
        self.check(["/b/: add 1 2", "done", "end: tell"], ["a", "b"], {}, [(2, 1)])

    def test_a_line_that_is_not_true_notes_nothing(self):
        self.check(["/z/: add 1 2"], ["a", "b 1"], {}, [])

    def test_the_hand_as_it_is(self):
        self.check(["swap /a/ \"b c\"", "add 2 3"], ["a 5"], {"c": 5}, [])
        self.check(["join 2", "add 3 2"], ["a 1", "b"], {"b": 1}, [])

    def test_a_box_is_there_once_it_was_added_to(self):
        self.check(["add 1 2"], ["a 0"], {"a": 0}, [])
        self.check(["add 1 2"], ["a 5", "a -5"], {"a": 0}, [])
        self.check([], ["a 5"], {}, [])

    def test_boxes_and_faults_of_a_row_that_is_dropped(self):
        self.check(["add 1 2", "drop"], ["a 1", "b"], {"a": 1}, [(2, 1)])

    def test_boxes_are_none_at_the_beginning_of_each_walk(self):
        program = read("add 1 2\n")
        self.assertEqual(walk(program, "a 1\nb\n")[1:3], ({"a": 1}, [(2, 1)]))
        self.assertEqual(walk(program, "b 1\n")[1:3], ({"b": 1}, []))


class EndTest(unittest.TestCase):
    def test_tell_in_the_order_of_signs(self):
        rows = ["b 1", "a 2", "B 3", "~ 4", "! 5", "ab 6", "a- 7", "10 8", "9 9", "_ 1"]
        self.assertEqual(given(["add 1 2", "drop", "end: tell"], rows), [
            "! 5", "10 8", "9 9", "B 3", "_ 1", "a 2", "a- 7", "ab 6", "b 1", "~ 4",
        ])

    def test_tell_of_sums(self):
        rows = ["a 5", "a -7", "b 1", "b -1", "c 007"]
        self.assertEqual(given(["add 1 2", "drop", "end: tell"], rows), ["a -2", "b 0", "c 7"])

    def test_tell_with_no_box(self):
        self.assertEqual(given(["end: tell"], ["a 1"]), ["a 1"])
        self.assertEqual(given(["add 1 2", "drop", "end: tell"], ["a"]), [])
        self.assertEqual(given(["end: tell"], []), [])

    def test_two_lines_with_tell(self):
        lines = ["add 1 2", "drop", "end: tell", "end: say \"x\"", "end: tell"]
        self.assertEqual(given(lines, ["a 1", "b 2"]), ["a 1", "b 2", "x", "a 1", "b 2"])

    def test_in_order_wherever_they_stand(self):
        lines = ["end: say \"1\"", "pile s", "end: bring s", "drop", "end: say \"2\"", "end: bring s"]
        self.assertEqual(given(lines, list("ab")), ["1", "a", "b", "2"])

    def test_done_once_behind_the_last_turn(self):
        told = walked(["end: say \"x\"", "join 2"], ["a"])
        self.assertEqual(brief(told[3])[-4:], ["want 2", "none 2", "end", "give x"])
        self.assertEqual(told[0], ["a", "x"])

    def test_drop_and_done_at_the_last_row_do_not_hinder_them(self):
        for deed in ("drop", "done"):
            self.assertEqual(given([deed, "end: say \"x\""], ["a"])[-1], "x")


if __name__ == "__main__":
    unittest.main()
