"""Turns, truths, flags and the log, points 2, 20 to 23 and 29."""

import copy
import unittest

from helpers import brief, given, plain, text_of, truths, walked
from madeup import MadeUp
from oracle import plain_walk
from rowblade.errors import Endless
from rowblade.lines import Always, FromTo, Like, Line, Print, Program, RowIs, Say
from rowblade.patterns import pattern
from rowblade.reading import read
from rowblade.showing import shown
from rowblade.walk import run, walk


class LogTest(unittest.TestCase):
    def check(self, lines, rows, log):
        told = walked(lines, rows)
        self.assertEqual(brief(told[3]), log)
        self.assertEqual(told[0], [entry[5:] for entry in log if entry.startswith("give ")])

    def test_no_lines_and_no_rows(self):
        self.assertEqual(walk(read(""), ""), ([], {}, [], [("want", 1), ("none", 1), ("end",)]))

    def test_the_log_in_full(self):
        self.assertEqual(walk(read("mark x\n/b/: drop\nend: say \"z\"\n"), "a\nb\n"), (["a", "z"], {}, [], [
            ("want", 1), ("take", 1), ("meet", 1, True), ("meet", 2, False), ("give", "a"), ("over",),
            ("want", 2), ("take", 2), ("meet", 1, True), ("meet", 2, True), ("over",),
            ("want", 3), ("none", 3), ("end",), ("give", "z"),
        ]))

    def test_the_kinds_of_what_is_told(self):
        told = walk(read("add 1 2\nlast: say \"x\"\n"), "a 1\nb\n")
        self.assertIs(type(told), tuple)
        self.assertEqual([type(part) for part in told], [list, dict, list, list])
        for entry in told[2] + told[3]:
            self.assertIs(type(entry), tuple)
        for entry in told[3]:
            if entry[0] == "meet":
                self.assertEqual([type(part) for part in entry], [str, int, bool])

    def test_no_lines(self):
        self.check([], ["a", ""], [
            "want 1", "take 1", "give a", "over", "want 2", "take 2", "give ", "over", "want 3", "none 3", "end",
        ])

    def test_no_rows(self):
        self.check(["print", "join 2", "end: say \"x\"", "end: say \"\""], [], [
            "want 1", "none 1", "end", "give x", "give ",
        ])

    def test_lines_are_met_in_order_until_the_turn_is_over(self):
        self.check(["print", "/b/: done", "say \"x\"", "/c/: drop", "say \"y\""], ["a", "b", "c"], [
            "want 1", "take 1", "meet 1 +", "give a", "meet 2 -", "meet 3 +", "give x", "meet 4 -", "meet 5 +", "give y",
            "give a", "over",
            "want 2", "take 2", "meet 1 +", "give b", "meet 2 +", "give b", "over",
            "want 3", "take 3", "meet 1 +", "give c", "meet 2 -", "meet 3 +", "give x", "meet 4 +", "over",
            "want 4", "none 4", "end",
        ])

    def test_lines_with_end_are_met_by_no_turn_but_counted(self):
        self.check(["end: say \"x\"", "mark m", "end: bring s", "pile s", "end: tell", "row 2: drop"], ["a", "b"], [
            "want 1", "take 1", "meet 2 +", "meet 4 +", "meet 6 -", "give a", "over",
            "want 2", "take 2", "meet 2 +", "meet 4 +", "meet 6 +", "over",
            "want 3", "none 3", "end", "give x", "give a", "give b",
        ])

    def test_only_lines_with_end(self):
        self.check(["end: say \"x\""], ["a"], [
            "want 1", "take 1", "give a", "over", "want 2", "none 2", "end", "give x",
        ])

    def test_a_join(self):
        self.check(["/a/: join 3", "print"], ["a", "a", "b"], [
            "want 1", "take 1", "meet 1 +", "want 2", "take 2", "meet 2 +", "give a a", "give a a", "over",
            "want 3", "take 3", "meet 1 -", "meet 2 +", "give b", "give b", "over", "want 4", "none 4", "end",
        ])

    def test_a_join_at_the_end(self):
        self.check(["join 2", "print"], ["a"], [
            "want 1", "take 1", "meet 1 +", "want 2", "none 2", "give a", "over", "want 2", "none 2", "end",
        ])

    def test_a_join_that_has_enough(self):
        self.check(["mark m", "join 2", "go m"], ["a", "b", "c"], [
            "want 1", "take 1", "meet 1 +", "meet 2 +", "want 2", "take 2", "meet 3 +", "meet 2 +", "give a b", "over",
            "want 3", "take 3", "meet 1 +", "meet 2 +", "want 4", "none 4", "give c", "over", "want 4", "none 4", "end",
        ])

    def test_a_go_ahead(self):
        self.check(["/a/: go m", "say \"x\"", "mark m", "print"], ["a", "b"], [
            "want 1", "take 1", "meet 1 +", "meet 4 +", "give a", "give a", "over",
            "want 2", "take 2", "meet 1 -", "meet 2 +", "give x", "meet 3 +", "meet 4 +", "give b", "give b", "over",
            "want 3", "none 3", "end",
        ])

    def test_a_go_to_a_mark_at_the_end(self):
        self.check(["go m", "say \"x\"", "mark m"], ["a"], [
            "want 1", "take 1", "meet 1 +", "give a", "over", "want 2", "none 2", "end",
        ])


class TruthTest(unittest.TestCase):
    def check(self, cond, rows, told):
        """The truths of a condition at each row, and the opposite ones with not ahead."""
        with self.subTest(cond=cond, rows=rows):
            self.assertEqual(truths([f"{cond}: print"], rows), told)
            other = told.replace("+", "*").replace("-", "+").replace("*", "-")
            self.assertEqual(truths([f"not {cond}: print"], rows), other)

    def test_no_condition(self):
        self.assertEqual(truths(["print"], ["a", "", "b"]), "+++")

    def test_row(self):
        self.check("row 1", ["a", "b", "c"], "+--")
        self.check("row 2", ["a", "b", "c"], "-+-")
        self.check("row 3", ["a", "b", "c"], "--+")
        self.check("row 4", ["a", "b", "c"], "---")
        self.check("row 999", ["a", "b", "c"], "---")
        self.check("row 300", ["a"] * 300, "-" * 299 + "+")
        self.check("row 10", ["1"] * 12, "---------+--")

    def test_last(self):
        self.check("last", ["a"], "+")
        self.check("last", ["a", "a"], "-+")
        self.check("last", ["", "", ""], "--+")

    def test_last_of_a_text_that_is_not_ended(self):
        for text, given_rows in [("a\nb", ["a", "x", "b"]), ("a\n", ["x", "a"]), ("a\n\n", ["a", "x", ""]), ("\n", ["x", ""])]:
            self.assertEqual(walk(read("last: say \"x\""), text)[0], given_rows)

    def test_patterns(self):
        self.check("/a/", ["a", "b", "ba", ""], "+-+-")
        self.check("/^a/", ["a", "ba", "ab"], "+-+")
        self.check("/a$/", ["a", "ba", "ab"], "++-")
        self.check("//", ["a", ""], "++")
        self.check("/^$/", ["a", "", " "], "-+-")
        self.check("/[^a]/", ["a", "", "ab", "b"], "--++")
        self.check("/ /", ["a b", "ab"], "+-")

    def test_soon(self):
        self.check("soon 1 /a/", ["a", "b", "a", "a", "b"], "-++--")
        self.check("soon 2 /a/", ["a", "b", "b", "a", "b"], "-++--")
        self.check("soon 3 /a/", ["b", "b", "b", "b", "a"], "-+++-")
        self.check("soon 3 /a/", ["a"], "-")
        self.check("soon 3 /a/", ["b", "a"], "+-")
        self.check("soon 3 /a/", ["b", "b", "a"], "++-")
        self.check("soon 1 //", ["a", "b", "c"], "++-")
        self.check("soon 3 //", ["a", "b", "c"], "++-")
        self.check("soon 2 /^$/", ["", "x", "x", ""], "-++-")

    def test_told_of_the_row_as_it_came(self):
        lines = ["swap /a/ \"b\"", "/a/: say \"still a\"", "/b/: say \"b\"", "last: swap /b/ \"c\"", "/b/: say \"no\""]
        self.assertEqual(given(lines, ["a"]), ["still a", "c"])
        self.assertEqual(given(["swap every /a/ \"\"", "not /a/: drop"], ["a", "b", "aa"]), ["", ""])

    def test_the_hand_that_soon_sees_is_the_row_as_it_comes(self):
        lines = ["soon 1 /a/: say \"x\"", "swap /a/ \"b\""]
        self.assertEqual(given(lines, ["a", "a"]), ["x", "b", "b"])

    def test_behind_a_join_the_truths_are_those_of_the_row_taken(self):
        lines = ["/a/: join 2", "/a/: say \"a\"", "/b/: say \"b\"", "row 1: say \"1\"", "row 2: say \"2\"", "last: say \"l\""]
        self.assertEqual(given(lines, ["a", "b"]), ["b", "2", "l", "a b"])
        self.assertEqual(given(lines, ["a", "b", "c"]), ["b", "2", "a b", "l", "c"])
        self.assertEqual(given(lines, ["a", "a", "c"]), ["a", "2", "a a", "l", "c"])

    def test_soon_behind_a_join(self):
        lines = ["row 1: join 2", "soon 1 /c/: say \"x\""]
        self.assertEqual(given(lines, ["a", "b", "c"]), ["x", "a b", "c"])
        self.assertEqual(given(lines, ["a", "c", "b"]), ["a c", "b"])

    def test_not_with_an_end_of_the_turn(self):
        self.assertEqual(given(["not /a/: drop"], ["a", "b", "ca"]), ["a", "ca"])
        self.assertEqual(given(["not last: drop"], ["a", "b", "c"]), ["c"])
        self.assertEqual(given(["not row 2: drop"], ["a", "b", "c"]), ["b"])
        self.assertEqual(given(["not soon 1 /c/: drop"], ["a", "b", "c"]), ["b"])


class FlagTest(unittest.TestCase):
    def check(self, cond, rows, told):
        with self.subTest(cond=cond, rows=rows):
            self.assertEqual(truths([f"{cond}: print"], rows), told)
            other = told.replace("+", "*").replace("-", "+").replace("*", "-")
            self.assertEqual(truths([f"not {cond}: print"], rows), other)

    def test_patterns(self):
        self.check("from /a/ to /b/", list("xaxxbx"), "-++++-")
        self.check("from /a/ to /b/", list("xbxax"), "---++")
        self.check("from /a/ to /b/", list("xxx"), "---")

    def test_to_the_end_of_the_text(self):
        self.check("from /a/ to /b/", list("xaxx"), "-+++")
        self.check("from row 2 to row 999", list("xxxx"), "-+++")
        self.check("from /a/ to row 9", list("xaxx"), "-+++")

    def test_second_holds_at_the_row_of_the_first(self):
        self.check("from /a/ to /a/", list("xaxaxax"), "-+++-++")
        self.check("from /a/ to /b/", ["x", "ab", "x", "b", "x"], "-+++-")
        self.check("from /a/ to /b/", ["ab", "ab", "ab"], "+++")
        self.check("from // to //", list("xxxx"), "++++")
        self.check("from row 1 to /x/", list("xxx"), "++-")
        self.check("from row 2 to /x/", list("xxxxx"), "-++--")

    def test_second_is_a_row_no_greater_than_the_number(self):
        self.check("from /a/ to row 2", list("xaxxax"), "-+--+-")
        self.check("from /a/ to row 1", list("xaax"), "-++-")
        self.check("from row 3 to row 3", list("xxxx"), "--+-")
        self.check("from row 3 to row 2", list("xxxx"), "--+-")
        self.check("from row 1 to row 1", list("xx"), "+-")

    def test_second_is_a_row_greater_than_the_number(self):
        self.check("from row 1 to row 2", list("xxxx"), "++--")
        self.check("from row 2 to row 4", list("xxxxx"), "-+++-")
        self.check("from /a/ to row 3", list("aaaaa"), "+++++")
        self.check("from /a/ to row 3", list("axxxax"), "+++-+-")

    def test_another_stretch_behind_the_first(self):
        self.check("from /a/ to /b/", list("axbxaxbxax"), "+++-+++-++")
        self.check("from /a/ to /b/", list("abab"), "++++")
        self.check("from /a/ to /b/", list("aabxb"), "+++--")

    def test_a_row_at_which_it_goes_down_does_not_raise_it_again(self):
        self.check("from /a/ to /b/", ["a", "ab", "x", "b"], "++--")

    def test_each_line_has_a_flag_of_its_own(self):
        lines = ["from /a/ to /c/: say \"1\"", "from /b/ to /c/: say \"2\"", "from /a/ to /c/: say \"3\"", "drop"]
        self.assertEqual(given(lines, list("xabcb")), ["1", "3", "1", "2", "3", "1", "2", "3", "2"])

    def test_flags_are_down_at_the_beginning_of_each_walk(self):
        program = read("from /a/ to /b/: drop")
        self.assertEqual(run(program, "x\na\nx\n"), "x\n")
        self.assertEqual(run(program, "x\nx\na\n"), "x\nx\n")

    def test_flags_move_where_the_line_is_not_met(self):
        for ahead in ("/[ab]/: drop", "/[ab]/: done", "/[ab]/: go m"):
            lines = [ahead, "from /a/ to /b/: say \"in\"", "mark m"]
            told = [row for row in given(lines, list("xaxxbx")) if row not in ("a", "b")]
            self.assertEqual(told, ["x", "in", "x", "in", "x", "x"])

    def test_flags_move_at_rows_taken_by_a_join(self):
        lines = ["join 2", "from /a/ to /b/: say \"in\""]
        self.assertEqual(given(lines, list("axxx")), ["in", "a x", "in", "x x"])
        self.assertEqual(given(lines, list("xabx")), ["in", "x a", "b x"])
        self.assertEqual(given(lines, list("abxx")), ["in", "a b", "x x"])
        self.assertEqual(given(["from /a/ to /b/: say \"in\"", "join 2"], list("xaxb")), ["x a", "in", "x b"])

    def test_a_join_that_finds_no_row_moves_no_flag(self):
        self.assertEqual(given(["from /a/ to /a/: say \"in\"", "join 2"], list("a")), ["in", "a"])


class RunTest(unittest.TestCase):
    def test_ended_as_the_text_is(self):
        for program, text, told in [
            ("", "", ""), ("", "a", "a"), ("", "a\n", "a\n"), ("", "\n", "\n"), ("", "a\n\n", "a\n\n"), ("", "\n\na", "\n\na"),
            ("drop", "a", ""), ("drop", "a\nb\n", ""), ("drop", "", ""),
            ("/b/: drop", "a\nb", "a"), ("/b/: drop", "a\nb\n", "a\n"), ("/b/: drop", "\nb", "\n"), ("/b/: drop", "\nb\n", "\n"),
            ("print", "a", "a\na"), ("print", "\na", "\n\na\na"),
            ("swap /a/ \"\"", "b\na", "b\n\n"), ("swap /a/ \"\"", "a\nb", "\nb"), ("swap /a/ \"\"", "a", "\n"),
            ("end: say \"z\"", "", "z\n"), ("end: say \"z\"", "a", "a\nz"), ("end: say \"z\"", "a\n", "a\nz\n"),
            ("end: say \"\"", "a", "a\n\n"), ("end: say \"\"", "", "\n"),
        ]:
            with self.subTest(program=program, text=text):
                self.assertEqual(run(read(program), text), told)

    def test_by_their_arguments(self):
        self.assertEqual(run(program=read("print"), text="a\n"), "a\na\n")
        self.assertEqual(walk(program=read("print"), text="a\n")[0], ["a", "a"])

    def test_programs_made_of_their_parts(self):
        program = Program([Line(FromTo(RowIs(2), Like(pattern("c"))), Say("x")), Line(Always(), Print())])
        self.assertEqual(run(program, "a\nb\nc\nd"), "a\na\nx\nb\nb\nx\nc\nc\nd\nd")


class StayTest(unittest.TestCase):
    LINES = [
        "mark m", "from /a/ to row 3: pile s 2", "add 1 2", "swap every /[ab]/ \"c\"", "last: join 2", "soon 2 /b/: go n",
        "say \"x\"", "mark n", "end: bring s", "end: tell",
    ]

    def test_the_program_and_the_text_stay(self):
        program = read(text_of(self.LINES))
        before = copy.deepcopy([plain(line) for line in program.lines])
        lines = list(program.lines)
        walk(program, "a 1\nb 2\nc\n")
        run(program, "a 1\nb 2\nc\n")
        self.assertEqual(program.lines, lines)
        self.assertEqual([plain(line) for line in program.lines], before)
        self.assertEqual(shown(program), text_of(self.LINES))

    def test_what_is_told_may_be_changed(self):
        program = read(text_of(self.LINES))
        first = walk(program, "a 1\nb 2\nc\n")
        kept = copy.deepcopy(first)
        for part in first:
            part.clear()
        second = walk(program, "a 1\nb 2\nc\n")
        self.assertEqual(second, kept)
        second[0].append("more")
        second[1]["a"] = 9
        second[2].append((9, 9))
        second[3].append(("more",))
        self.assertEqual(walk(program, "a 1\nb 2\nc\n"), kept)

    def test_a_later_walk_changes_nothing_of_an_earlier_one(self):
        program = read(text_of(self.LINES))
        first = walk(program, "a 1\nb 2\n")
        kept = copy.deepcopy(first)
        walk(program, "z 9\ny 8\nx 7\n")
        self.assertEqual(first, kept)


class ManyWalksTest(unittest.TestCase):
    def test_many_walks(self):
        """Walks of programs made up by chance, told as by the plain words of the tests' own."""
        made_up = MadeUp(29)
        refused = 0
        for again in range(4000):
            lines, text = made_up.program(), made_up.text()
            program = read(lines)
            self.assertEqual(shown(program), lines)
            try:
                told = walk(program, text)
            except Endless as error:
                told = ("endless", error.row, error.line)
                refused += 1
            self.assertEqual(told, plain_walk(lines, text), (lines, text))
        self.assertTrue(100 < refused < 2000)


if __name__ == "__main__":
    unittest.main()
