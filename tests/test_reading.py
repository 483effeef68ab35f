"""Programs read from their text, points 2 and 9 to 12."""

import itertools
import random
import unittest

from helpers import plain
from oracle import is_line
from rowblade.errors import BladeError, NoLine, NoMark, TwoMarks
from rowblade.lines import Cond, Deed, Line, Program
from rowblade.patterns import pattern
from rowblade.reading import read
from rowblade.showing import shown

AB = pattern("[ab]")


def only_line(row):
    """The one line of a program, its marks added so that every go has one."""
    names = [f"mark {name}\n" for name in ("x", "abcdefgh") if row.endswith("go " + name)]
    return plain(read(row + "\n" + "".join(names)).lines[0])


CONDS = {
    "row 1": ("RowIs", 1),
    "row 9": ("RowIs", 9),
    "row 10": ("RowIs", 10),
    "row 999": ("RowIs", 999),
    "last": ("Last",),
    "//": ("Like", pattern("")),
    "/[ab]/": ("Like", AB),
    "soon 1 /[ab]/": ("Soon", 1, AB),
    "soon 2 //": ("Soon", 2, pattern("")),
    "soon 3 /^a.*$/": ("Soon", 3, pattern("^a.*$")),
    "from row 2 to row 1": ("FromTo", ("RowIs", 2), ("RowIs", 1)),
    "from row 2 to /[ab]/": ("FromTo", ("RowIs", 2), ("Like", AB)),
    "from /[ab]/ to row 999": ("FromTo", ("Like", AB), ("RowIs", 999)),
    "from /[ab]/ to //": ("FromTo", ("Like", AB), ("Like", pattern(""))),
    # patterns whose signs read like words of a line
    "/ /": ("Like", pattern(" ")),
    "/: drop/": ("Like", pattern(": drop")),
    "/a: b/": ("Like", pattern("a: b")),
    "/ to /": ("Like", pattern(" to ")),
    "/\"/": ("Like", pattern("\"")),
    "/say \"a\"/": ("Like", pattern("say \"a\"")),
    "/not end/": ("Like", pattern("not end")),
    "/[: \"]*/": ("Like", pattern("[: \"]*")),
    "from / to / to / to /": ("FromTo", ("Like", pattern(" to ")), ("Like", pattern(" to "))),
    "from /row 1/ to /: /": ("FromTo", ("Like", pattern("row 1")), ("Like", pattern(": "))),
    "soon 1 / 1 /": ("Soon", 1, pattern(" 1 ")),
}

DEEDS = {
    "drop": ("Drop",),
    "print": ("Print",),
    "done": ("Done",),
    "say \"\"": ("Say", ""),
    "say \"a\"": ("Say", "a"),
    "say \" a  b \"": ("Say", " a  b "),
    "say \"/a/: drop\"": ("Say", "/a/: drop"),
    "say \"" + "x" * 40 + "\"": ("Say", "x" * 40),
    "swap /[ab]/ \"\"": ("Swap", AB, "", False),
    "swap /[ab]/ \"" + "/" * 40 + "\"": ("Swap", AB, "/" * 40, False),
    "swap /a / \" \"": ("Swap", pattern("a "), " ", False),
    "swap /\"/ \"/\"": ("Swap", pattern("\""), "/", False),
    "swap / every / \"every\"": ("Swap", pattern(" every "), "every", False),
    "swap /a*b?c+/ \"long words\"": ("Swap", pattern("a*b?c+"), "long words", False),
    "swap every /[ab]/ \"\"": ("Swap", AB, "", True),
    "swap every /[ab]/ \"c\"": ("Swap", AB, "c", True),
    "swap every /a+b?cd*/ \"/:\"": ("Swap", pattern("a+b?cd*"), "/:", True),
    "swap every /........$/ \"12345678\"": ("Swap", pattern("........$"), "12345678", True),
    "join 2": ("Join", 2),
    "join 9": ("Join", 9),
    "pile x": ("Pile", "x", None),
    "pile abcdefgh": ("Pile", "abcdefgh", None),
    "pile x 1": ("Pile", "x", 1),
    "pile abcdefgh 9": ("Pile", "abcdefgh", 9),
    "bring x": ("Bring", "x"),
    "bring abcdefgh": ("Bring", "abcdefgh"),
    "go x": ("Go", "x"),
    "go abcdefgh": ("Go", "abcdefgh"),
    "add 1 1": ("Add", 1, 1),
    "add 1 9": ("Add", 1, 9),
    "add 9 1": ("Add", 9, 1),
}

WITH_END = {
    "say \"a\"": ("Say", "a"),
    "bring x": ("Bring", "x"),
    "tell": ("Tell",),
}

NO_LINES = [
    # nothing, or words that are none
    "", " ", "x", "Drop", "DROP", "dro", "drops", "drop drop", "drop:", "marks x", "nop", "end", "last", "row 1", "/a/",
    # blanks and tabs at wrong places
    " drop", "drop ", "  drop", "last:  drop", "last : drop", "last:drop", " last: drop", "last: drop ", "say  \"a\"",
    "say \"a\" ", " say \"a\"", "say\"a\"", "mark  x", "mark x ", " mark x", "row  1: drop", "row 1 : drop", "row1: drop",
    "soon  1 /a/: drop", "soon 1  /a/: drop", "soon 1/a/: drop", "soon1 /a/: drop", "not  last: drop", "notlast: drop",
    "not/a/: drop", "from  /a/ to /b/: drop", "from /a/  to /b/: drop", "from /a/ to  /b/: drop", "from/a/ to /b/: drop",
    "from /a/to /b/: drop", "from /a/ to/b/: drop", "swap  /a/ \"b\"", "swap /a/  \"b\"", "swap /a/\"b\"", "swap/a/ \"b\"",
    "swap every  /a/ \"b\"", "swap  every /a/ \"b\"", "swap every/a/ \"b\"", "swapevery /a/ \"b\"", "join  2", "join2",
    "join 2 ", "pile  x", "pile x  1", "pile x ", "pile x1", "bring  x", "bring x ", "go  x", "go x ", "add  1 2",
    "add 1  2", "add 12", "add 1 2 ", "\tdrop", "drop\t", "last:\tdrop", "say\t\"a\"", "mark\tx", "pile x\t1", "drop\r",
    # words that are wanting
    "mark", "mark ", "say", "say ", "swap", "swap ", "swap /a/", "swap /a/ ", "swap \"b\"", "swap every", "swap every /a/",
    "swap every \"b\"", "join", "join ", "pile", "pile ", "bring", "bring ", "go", "go ", "add", "add ", "add 1", "add 1 ",
    "row: drop", "row : drop", "soon: drop", "soon 1: drop", "soon /a/: drop", "from: drop", "from /a/: drop",
    "from /a/ to: drop", "from /a/ to : drop", "from to /a/: drop", "from row 1: drop", "not: drop", "not : drop",
    "last:", "last: ", ": drop", "/a/ drop", "/a/: ", "end:", "end: ",
    # words too many
    "print 1", "done 1", "say \"a\" \"b\"", "swap /a/ \"b\" \"c\"", "swap every every /a/ \"b\"", "join 2 3", "pile x 1 2",
    "pile x y", "bring x 1", "bring x y", "go x y", "add 1 2 3", "mark x y", "mark x 1", "end: tell x", "last last: drop",
    "last: last: drop", "/a/: /b/: drop", "/a/ /b/: drop", "from /a/ to /b/ to /c/: drop", "soon 1 /a/ /b/: drop",
    # conditions that there are none of
    "not not last: drop", "not not /a/: drop", "not end: tell", "not end: drop", "not end: say \"a\"", "not drop",
    "from last to /a/: drop", "from /a/ to last: drop", "from not /a/ to /b/: drop", "from /a/ to not /b/: drop",
    "from soon 1 /a/ to /b/: drop", "from end to /a/: tell", "soon 1 last: drop", "soon 1 row 1: drop", "soon not 1 /a/: drop",
    "soon 1 not /a/: drop", "end end: tell", "last not: drop", "always: drop",
    # N
    "row 0: drop", "row 1000: drop", "row 01: drop", "row 001: drop", "row 00: drop", "row 0999: drop", "row -1: drop",
    "row +1: drop", "row 1.0: drop", "row 1_0: drop", "row a: drop", "row 99999999: drop", "row " + "9" * 390 + ": drop",
    "row " + "9" * 5000 + ": drop", "row 1 0: drop", "row \u0661: drop", "row \u00b2: drop", "row 0x1: drop",
    "from row 0 to /a/: drop", "from /a/ to row 0: drop", "from row 1000 to /a/: drop", "from /a/ to row 1000: drop",
    "from row 01 to row 2: drop", "from row 1 to row 02: drop",
    # K
    "soon 0 /a/: drop", "soon 4 /a/: drop", "soon 01 /a/: drop", "soon 10 /a/: drop", "soon -1 /a/: drop",
    "soon +1 /a/: drop", "soon a /a/: drop", "soon 9 /a/: drop",
    # J
    "join 0", "join 1", "join 10", "join 02", "join -2", "join +2", "join a", "join 99", "join 2.0",
    # C
    "pile x 0", "pile x 10", "pile x 01", "pile x -1", "pile x +1", "pile x a",
    # the two of add
    "add 0 1", "add 1 0", "add 10 1", "add 1 10", "add 01 1", "add 1 01", "add -1 1", "add 1 -1", "add a 1", "add 1 a",
    # names
    "mark abcdefghi", "mark X", "mark aB", "mark x1", "mark 1", "mark x-y", "mark x_y", "mark \u00e9", "pile abcdefghi",
    "pile X", "pile x1 1", "bring abcdefghi", "bring X", "bring x1", "bring 1", "go abcdefghi", "go X", "go x1",
    "bring \u00e9", "mark \"x\"",
    # texts
    "say a", "say \"a", "say a\"", "say \"", "say \"a\"b\"", "say \"\"\"", "say \"\"\"\"", "say \"a\" b", "say 'a'",
    "say \"" + "x" * 41 + "\"", "say \"" + " " * 41 + "\"", "say \"a%b\"", "say \"a\tb\"", "say \"\u00e9\"", "say \"\x7f\"",
    "swap /a/ b", "swap /a/ \"b", "swap /a/ b\"", "swap /a/ \"b\"c\"", "swap /a/ \"" + "x" * 41 + "\"", "swap /a/ \"%\"",
    "say \"\x1f\"", "say \"\u2028\"", "say \\\"a\\\"",
    # patterns
    "/a: drop", "a/: drop", "/: drop", "///: drop", "/a//: drop", "//a/: drop", "/a/b/: drop", "/[a]/: drop", "/*/: drop",
    "/a**/: drop", "/[]/: drop", "/[^]/: drop", "/[ab/: drop", "/a^/: drop", "/$a/: drop", "/abcdefghi/: drop",
    "/[aa]/: drop", "/[a/]/: drop", "/%/: drop", "/[^%]/: drop", "/\t/: drop", "/\u00e9/: drop", "not /[a]/: drop",
    "soon 1 /[a]/: drop", "soon 1 a: drop", "from /[a]/ to /b/: drop", "from /a/ to /[b]/: drop", "from a to /b/: drop",
    "from /a/ to b: drop", "swap /[a]/ \"b\"", "swap /a \"b\"", "swap a \"b\"", "swap every /[a]/ \"b\"", "/a\\/b/: drop",
    # swaps of a pattern that may fit nothing
    "swap // \"a\"", "swap /^/ \"a\"", "swap /$/ \"a\"", "swap /^$/ \"a\"", "swap /a*/ \"b\"", "swap /a?/ \"b\"",
    "swap /a*b?c*/ \"\"", "swap every // \"\"", "swap every /a*/ \"\"", "swap every /^a?$/ \"\"", "last: swap /a*/ \"b\"",
    # swap every with a text that is too long
    "swap every /a/ \"bc\"", "swap every /a+/ \"bc\"", "swap every /a+b?/ \"bc\"", "swap every /abc*/ \"def\"",
    "swap every /.......[ab]/ \"123456789\"", "not /a/: swap every /a/ \"  \"",
    # end and tell
    "tell", "last: tell", "/a/: tell", "row 1: tell", "not last: tell", "soon 1 /a/: tell", "from /a/ to /b/: tell",
    "end: drop", "end: print", "end: done", "end: swap /a/ \"b\"", "end: swap every /a/ \"b\"", "end: join 2", "end: pile x",
    "end: pile x 1", "end: go x", "end: add 1 2", "end: mark x", "End: tell", "end tell", "end:tell", " end: tell",
    # marks with a condition
    "last: mark x", "/a/: mark x", "not last: mark x", "row 1: mark x",
    # what is no sign
    "%", "drop%", "%drop", "dr\u00f6p", "drop\x00", "drop\x0b", "drop\x0c", "drop\x1c", "drop\x85", "drop\u2028", "\ufeffdrop",
]


class LineTest(unittest.TestCase):
    def test_each_deed_at_every_row(self):
        for row, deed in DEEDS.items():
            with self.subTest(row):
                self.assertEqual(only_line(row), ("Line", ("Always",), deed))

    def test_each_condition_with_each_deed(self):
        for (cond_row, cond), (deed_row, deed) in itertools.product(CONDS.items(), DEEDS.items()):
            self.assertEqual(only_line(f"{cond_row}: {deed_row}"), ("Line", cond, deed))
            self.assertEqual(only_line(f"not {cond_row}: {deed_row}"), ("Line", ("Not", cond), deed))

    def test_the_deeds_with_end(self):
        for row, deed in WITH_END.items():
            with self.subTest(row):
                self.assertEqual(only_line("end: " + row), ("Line", ("End",), deed))

    def test_end_with_each_other_deed(self):
        for row in DEEDS:
            with self.subTest(row):
                if row.startswith(("say ", "bring ")):
                    self.assertEqual(len(read("end: " + row).lines), 1)
                else:
                    self.refuse("end: " + row)
                self.refuse("not end: " + row)

    def test_tell_with_each_other_condition(self):
        for row in CONDS:
            with self.subTest(row):
                self.refuse(row + ": tell")
                self.refuse("not " + row + ": tell")

    def test_not_stands_once(self):
        for row in CONDS:
            with self.subTest(row):
                self.refuse("not not " + row + ": drop")

    def test_marks(self):
        for name in ("x", "ab", "abcdefgh", "mark", "drop", "end", "not"):
            with self.subTest(name):
                self.assertEqual(only_line("mark " + name), ("Line", ("Always",), ("Mark", name)))

    def test_no_lines(self):
        for row in NO_LINES:
            with self.subTest(repr(row)):
                self.refuse(row)

    def test_every_row_number(self):
        for number in range(1002):
            if 1 <= number <= 999:
                self.assertEqual(only_line(f"row {number}: drop"), ("Line", ("RowIs", number), ("Drop",)))
            else:
                self.refuse(f"row {number}: drop")

    def test_the_small_numbers(self):
        for number in range(13):
            for row, least, most in [
                (f"soon {number} /a/: drop", 1, 3), (f"join {number}", 2, 9), (f"pile x {number}", 1, 9),
                (f"add {number} 2", 1, 9), (f"add 2 {number}", 1, 9),
            ]:
                with self.subTest(row):
                    if least <= number <= most:
                        self.assertEqual(shown(read(row)), row + "\n")
                    else:
                        self.refuse(row)

    def test_texts_of_each_length_and_each_sign(self):
        for length in range(43):
            row = "say \"" + "x" * length + "\""
            if length <= 40:
                self.assertEqual(only_line(row)[2], ("Say", "x" * length))
            else:
                self.refuse(row)
        for code in range(256):
            row = "say \"a" + chr(code) + "b\""
            if 32 <= code <= 126 and chr(code) not in "%\"":
                self.assertEqual(only_line(row)[2], ("Say", "a" + chr(code) + "b"))
            elif chr(code) != "\n":
                self.refuse(row)

    def test_the_text_of_swap_every_against_the_least_length(self):
        for text, least in {"a": 1, "a+": 1, "ab": 2, "ab*c?": 1, "a*b*c": 1, "^abc$": 3, "[^a]+.[.]x?": 3}.items():
            for length in range(5):
                row = f"swap every /{text}/ \"{'x' * length}\""
                with self.subTest(row):
                    if length <= least:
                        self.assertEqual(only_line(row)[2], ("Swap", pattern(text), "x" * length, True))
                    else:
                        self.refuse(row)
                    self.assertEqual(only_line(row.replace("every ", ""))[2][3], False)

    def test_lines_changed_at_a_few_places(self):
        """Whether a row is a line is told as by the plain words of the tests' own."""
        chance = random.Random(12)
        lines = [f"{cond}: {deed}" for cond in CONDS for deed in DEEDS] + list(DEEDS) + ["mark x", "end: tell"]
        signs = [chr(code) for code in range(32, 127)] + ["\t", "\r", "\u00e9"]
        parts = ["not ", "end: ", "tell", "row 1", " to ", "from ", ": ", "last", "/a/", "\"", "0", "1", "/", " ", "every "]
        stand = 0
        for again in range(15000):
            row = chance.choice(lines)
            for change in range(chance.randint(1, 3)):
                at, gone = chance.randint(0, len(row)), chance.randint(0, 1)
                row = row[:at] + chance.choice([chance.choice(signs), chance.choice(parts), ""]) + row[at + gone:]
            try:
                read(row + "\n")
                told = True
            except NoMark:
                told = True
            except NoLine as error:
                told = False
                self.assertEqual(error.row, 1)
            self.assertIs(told, is_line(row), repr(row))
            stand += told
        self.assertTrue(1000 < stand < 14000)

    def refuse(self, row):
        with self.assertRaises(NoLine) as caught:
            read("drop\n" + row + "\n")
        self.assertEqual(caught.exception.row, 2)


class ReadTest(unittest.TestCase):
    def refused(self, kind, row, text):
        with self.subTest(repr(text)):
            with self.assertRaises(BladeError) as caught:
                read(text)
            self.assertIs(type(caught.exception), kind)
            self.assertIsInstance(caught.exception, ValueError)
            self.assertEqual(caught.exception.row, row)
            self.assertIs(type(caught.exception.row), int)

    def test_the_empty_text_is_the_program_of_no_lines(self):
        program = read("")
        self.assertIs(type(program), Program)
        self.assertEqual(program.lines, [])

    def test_ended_or_not(self):
        for text in ("drop", "drop\n"):
            self.assertEqual([plain(line) for line in read(text).lines], [("Line", ("Always",), ("Drop",))])
        for text in ("print\nlast: done", "print\nlast: done\n"):
            self.assertEqual([plain(line) for line in read(text).lines], [
                ("Line", ("Always",), ("Print",)), ("Line", ("Last",), ("Done",)),
            ])

    def test_the_kinds_of_what_is_told(self):
        program = read("mark x\nrow 1: go x\nend: tell\n")
        self.assertIs(type(program), Program)
        self.assertIs(type(program.lines), list)
        for line in program.lines:
            self.assertIs(type(line), Line)
            self.assertIsInstance(line.cond, Cond)
            self.assertIsInstance(line.deed, Deed)
        self.assertIs(type(program.lines[1].cond.number), int)
        self.assertIs(read("swap /a/ \"b\"").lines[0].deed.every, False)
        self.assertIs(read("swap every /a/ \"b\"").lines[0].deed.every, True)
        self.assertIs(read("pile x").lines[0].deed.most, None)

    def test_by_its_argument(self):
        self.assertEqual(len(read(text="drop\n").lines), 1)

    def test_empty_rows_are_no_lines(self):
        self.refused(NoLine, 1, "\n")
        self.refused(NoLine, 1, "\n\n")
        self.refused(NoLine, 1, "\ndrop\n")
        self.refused(NoLine, 2, "drop\n\n")
        self.refused(NoLine, 2, "drop\n\n\n")
        self.refused(NoLine, 2, "drop\n\nprint\n")
        self.refused(NoLine, 3, "drop\ndrop\n\ndrop")

    def test_the_first_row_that_is_no_line(self):
        self.refused(NoLine, 1, "x")
        self.refused(NoLine, 1, "x\ny\n")
        self.refused(NoLine, 2, "drop\nx\ny\n")
        self.refused(NoLine, 3, "drop\nprint\n/[a]/: drop\nx\n")
        self.refused(NoLine, 2, "drop\nsay \"50%\"\n")
        self.refused(NoLine, 2, "drop\nsay \"\u00e9\"\n")
        self.refused(NoLine, 2, "drop\nsay \"\x7f\"\n")
        self.refused(NoLine, 1, "drop\r\nprint\r\n")
        self.refused(NoLine, 1, "drop\x0bprint\n")

    def test_twenty_four_rows_and_more(self):
        for end in ("", "\n"):
            self.assertEqual(len(read("\n".join(["drop"] * 24) + end).lines), 24)
            for many in (25, 26, 100):
                self.refused(NoLine, 25, "\n".join(["drop"] * many) + end)

    def test_no_line_about_the_twenty_fourth(self):
        drops = ["drop"] * 24
        self.refused(NoLine, 25, "\n".join(drops + ["x"]))
        self.refused(NoLine, 25, "\n".join(drops + ["drop", "x"]))
        self.refused(NoLine, 25, "\n".join(drops) + "\n\n")
        self.refused(NoLine, 24, "\n".join(drops[:23] + ["x"] + drops))
        self.refused(NoLine, 24, "\n".join(drops[:23] + ["x"]))
        self.refused(NoLine, 24, "\n".join(drops[:23]) + "\n\n")
        self.refused(NoLine, 1, "\n".join(["x"] + drops))

    def test_two_marks(self):
        self.refused(TwoMarks, 2, "mark x\nmark x\n")
        self.refused(TwoMarks, 3, "mark x\ndrop\nmark x\nmark x\n")
        self.refused(TwoMarks, 3, "mark x\nmark y\nmark y\nmark x\n")
        self.refused(TwoMarks, 4, "mark y\nmark x\ndrop\nmark x\nmark y\n")
        self.refused(TwoMarks, 24, "\n".join(["mark x"] + ["drop"] * 22 + ["mark x"]))

    def test_no_mark(self):
        self.refused(NoMark, 1, "go x\n")
        self.refused(NoMark, 2, "mark x\ngo y\n")
        self.refused(NoMark, 2, "drop\ngo x\ngo y\nmark y\n")
        self.refused(NoMark, 2, "mark xx\nlast: go x\n")
        self.refused(NoMark, 1, "not row 3: go x\nmark xx\n")
        self.refused(NoMark, 3, "mark x\ngo x\ngo y\ngo z\n")
        self.refused(NoMark, 1, "go x\nbring x\npile x\nsay \"mark x\"\n")

    def test_a_go_ahead_of_its_mark_and_behind_it(self):
        for text in ("go x\nmark x\n", "mark x\ngo x\n", "mark y\ngo x\nmark x\ngo y\ngo x\n"):
            self.assertEqual(shown(read(text)), text)

    def test_which_refusal_comes_first(self):
        self.refused(NoLine, 4, "go y\nmark x\nmark x\nx\n")
        self.refused(NoLine, 3, "mark x\nmark x\nx\n")
        self.refused(NoLine, 2, "go x\nx\n")
        self.refused(NoLine, 1, "x\nmark x\nmark x\ngo y\n")
        self.refused(TwoMarks, 3, "go y\nmark x\nmark x\n")
        self.refused(TwoMarks, 2, "mark x\nmark x\ngo y\n")
        self.refused(NoLine, 25, "\n".join(["mark x", "mark x", "go y"] + ["drop"] * 22))
        self.refused(NoLine, 25, "\n".join(["go y"] + ["drop"] * 24))
        self.refused(NoMark, 1, "go y\nmark x\n")

    def test_shelves_have_names_apart_from_marks(self):
        text = "mark x\npile x\npile x 2\nbring x\nbring y\nend: bring z\n"
        self.assertEqual(shown(read(text)), text)

    def test_one_program_changes_nothing_of_another(self):
        text = "/a/: drop\nsoon 2 /b/: swap /c/ \"d\"\n"
        one, other = read(text), read(text)
        one.lines[0].cond.pattern[1].clear()
        one.lines[1].deed.words = "e"
        one.lines.clear()
        self.assertEqual(shown(other), text)
        self.assertEqual(shown(read(text)), text)
        read("").lines.append("more")
        self.assertEqual(read("").lines, [])

    def test_the_same_calls_tell_the_same(self):
        for again in range(3):
            self.assertEqual(shown(read("row 1: done\nmark x\n")), "row 1: done\nmark x\n")
            self.refused(NoMark, 1, "go x\n")


if __name__ == "__main__":
    unittest.main()
