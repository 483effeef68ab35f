"""Programs shown as their text, points 2 and 13."""

import itertools
import unittest

from rowblade.lines import (
    Add, Always, Bring, Done, Drop, End, FromTo, Go, Join, Last, Like, Line, Mark, Not, Pile, Print, Program, RowIs, Say,
    Soon, Swap, Tell,
)
from rowblade.patterns import pattern
from rowblade.reading import read
from rowblade.showing import shown

A = pattern("a")

CONDS = [
    (RowIs(1), "row 1: "),
    (RowIs(10), "row 10: "),
    (RowIs(999), "row 999: "),
    (Last(), "last: "),
    (Like(pattern("")), "//: "),
    (Like(pattern("^a[^b]*.?$")), "/^a[^b]*.?$/: "),
    (Like(pattern(" to \": ")), "/ to \": /: "),
    (Soon(1, A), "soon 1 /a/: "),
    (Soon(3, pattern("[ab]+")), "soon 3 /[ab]+/: "),
    (FromTo(RowIs(2), RowIs(1)), "from row 2 to row 1: "),
    (FromTo(RowIs(2), Like(A)), "from row 2 to /a/: "),
    (FromTo(Like(A), RowIs(3)), "from /a/ to row 3: "),
    (FromTo(Like(A), Like(pattern("b"))), "from /a/ to /b/: "),
]
DEEDS = [
    (Drop(), "drop"),
    (Print(), "print"),
    (Done(), "done"),
    (Say(""), "say \"\""),
    (Say(" a: /b/ "), "say \" a: /b/ \""),
    (Swap(A, "", False), "swap /a/ \"\""),
    (Swap(pattern("a+[.]$"), "x y", False), "swap /a+[.]$/ \"x y\""),
    (Swap(A, "b", True), "swap every /a/ \"b\""),
    (Join(2), "join 2"),
    (Join(9), "join 9"),
    (Pile("x", None), "pile x"),
    (Pile("abcdefgh", 1), "pile abcdefgh 1"),
    (Pile("x", 9), "pile x 9"),
    (Bring("x"), "bring x"),
    (Go("x"), "go x"),
    (Add(1, 9), "add 1 9"),
    (Add(9, 1), "add 9 1"),
]
WITH_END = [(Say("a"), "say \"a\""), (Bring("x"), "bring x"), (Tell(), "tell")]


class ShownTest(unittest.TestCase):
    def check(self, lines, text):
        program = Program(lines)
        self.assertEqual(shown(program), text)
        self.assertEqual(shown(read(text)), text)
        self.assertEqual(shown(program=read(shown(program))), text)

    def test_no_lines(self):
        self.check([], "")
        self.assertEqual(shown(read("")), "")

    def test_each_deed(self):
        for deed, text in DEEDS:
            with self.subTest(text):
                self.check([Line(Always(), deed), Line(Always(), Mark("x"))], text + "\nmark x\n")

    def test_each_condition_with_each_deed(self):
        for (cond, ahead), (deed, text) in itertools.product(CONDS, DEEDS):
            mark = Line(Always(), Mark("x"))
            self.check([mark, Line(cond, deed)], f"mark x\n{ahead}{text}\n")
            self.check([mark, Line(Not(cond), deed)], f"mark x\nnot {ahead}{text}\n")

    def test_the_deeds_with_end(self):
        for deed, text in WITH_END:
            with self.subTest(text):
                self.check([Line(End(), deed)], f"end: {text}\n")

    def test_marks(self):
        self.check([Line(Always(), Mark("a")), Line(Always(), Mark("abcdefgh"))], "mark a\nmark abcdefgh\n")

    def test_many_lines(self):
        lines = [Line(cond, deed) for (cond, ahead), (deed, text) in zip(CONDS, DEEDS)]
        texts = [ahead + text for (cond, ahead), (deed, text) in zip(CONDS, DEEDS)]
        self.check(lines, "\n".join(texts) + "\n")

    def test_a_text_that_is_not_ended_is_shown_ended(self):
        self.assertEqual(shown(read("drop\nprint")), "drop\nprint\n")
        self.assertEqual(shown(read("drop")), "drop\n")

    def test_the_program_stays_as_it_was(self):
        line = Line(Like(pattern("a")), Say("b"))
        program = Program([line])
        shown(program)
        self.assertEqual(program.lines, [line])
        self.assertEqual(line.cond.pattern, pattern("a"))
        self.assertEqual(shown(program), "/a/: say \"b\"\n")


if __name__ == "__main__":
    unittest.main()
