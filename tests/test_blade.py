"""A text fed in pieces, points 2, 3 and 30 to 32."""

import copy
import unittest

from helpers import plain, text_of
from madeup import MadeUp
from oracle import PlainBlade, plain_ahead, plain_walk
from rowblade.blade import Blade, ahead
from rowblade.errors import BladeError, Endless, Finished
from rowblade.lines import Always, Drop, FromTo, Like, Line, Not, Program, RowIs, Say, Soon
from rowblade.patterns import pattern
from rowblade.reading import read
from rowblade.showing import shown
from rowblade.walk import walk


def blade_of(*lines):
    return Blade(read(text_of(lines)))


def fed(blade, *pieces):
    return [blade.feed(piece) for piece in pieces]


class PieceTest(unittest.TestCase):
    def test_no_lines(self):
        blade = blade_of()
        self.assertEqual(fed(blade, "a\n", "b", "", "\n", "c"), [["a"], [], [], ["b"], []])
        self.assertEqual(blade.finish(), ["c"])

    def test_the_kinds_of_what_is_told(self):
        blade = blade_of("add 1 2")
        self.assertIs(type(blade.feed("a 1\nb\n")), list)
        self.assertIs(type(blade.boxes()), dict)
        self.assertIs(type(blade.faults()), list)
        self.assertIs(type(blade.faults()[0]), tuple)
        self.assertIs(type(blade.kept()), int)
        self.assertIs(type(blade.finish()), list)

    def test_by_their_arguments(self):
        blade = Blade(program=read("print"))
        self.assertEqual(blade.feed(piece="a\n"), ["a", "a"])
        self.assertEqual(ahead(program=read("last: print")), 1)

    def test_sign_by_sign(self):
        self.assertEqual(fed(blade_of(), *"ab\n\nc"), [[], [], ["ab"], [""], []])

    def test_several_rows_in_a_piece(self):
        self.assertEqual(fed(blade_of(), "a\nb\nc", "\nd\n\n"), [["a", "b"], ["c", "d", ""]])

    def test_line_feeds_at_the_edges_of_pieces(self):
        self.assertEqual(fed(blade_of(), "a", "\nb", "\n", "\n", "c\n"), [[], ["a"], ["b"], [""], ["c"]])

    def test_pieces_of_no_signs(self):
        blade = blade_of()
        self.assertEqual(fed(blade, "", "", "a", "", "\n", ""), [[], [], [], [], ["a"], []])
        self.assertEqual(blade.finish(), [])

    def test_nothing_fed(self):
        self.assertEqual(blade_of().finish(), [])
        self.assertEqual(blade_of("print", "join 2").finish(), [])
        self.assertEqual(blade_of("end: say \"x\"").finish(), ["x"])

    def test_only_pieces_of_no_signs(self):
        blade = blade_of("print", "end: say \"x\"")
        self.assertEqual(fed(blade, "", ""), [[], []])
        self.assertEqual(blade.finish(), ["x"])

    def test_a_last_row_without_its_line_feed_is_whole_at_the_finish(self):
        blade = blade_of("/ab/: say \"x\"")
        self.assertEqual(fed(blade, "a", "b"), [[], []])
        self.assertEqual(blade.finish(), ["x", "ab"])

    def test_a_text_that_is_ended_has_no_row_behind(self):
        blade = blade_of("last: say \"x\"")
        self.assertEqual(fed(blade, "a\n", "b\n"), [[], ["a"]])
        self.assertEqual(blade.finish(), ["x", "b"])

    def test_a_last_row_that_is_empty(self):
        blade = blade_of("/^$/: say \"x\"")
        self.assertEqual(fed(blade, "a\n\n"), [["a", "x", ""]])
        self.assertEqual(blade.finish(), [])

    def test_lines_with_end_at_the_finish_alone(self):
        blade = blade_of("end: say \"x\"", "pile s", "add 1 2", "drop", "end: bring s", "end: tell")
        self.assertEqual(fed(blade, "a 1\n", "b 2\n"), [[], []])
        self.assertEqual(blade.finish(), ["x", "a 1", "b 2", "a 1", "b 2"])

    def test_a_join_waits_from_one_feed_to_the_next(self):
        blade = blade_of("print", "join 3", "say \"x\"", "join 3")
        self.assertEqual(fed(blade, "a\n", "b\n", "c", "\nd\n"), [["a"], ["x"], [], ["a b c", "d"]])
        self.assertEqual(blade.finish(), ["d"])

    def test_a_join_waits_at_the_finish(self):
        blade = blade_of("join 2", "say \"x\"", "end: say \"y\"")
        self.assertEqual(fed(blade, "a\n"), [[]])
        self.assertEqual(blade.finish(), ["a", "y"])
        blade = blade_of("join 2", "say \"x\"")
        self.assertEqual(fed(blade, "a\nb"), [[]])
        self.assertEqual(blade.finish(), ["x", "a b"])

    def test_two_blades_of_one_program(self):
        program = read("from /a/ to /b/: pile s\njoin 2\nadd 1 2\nend: bring s\nend: tell\n")
        first, second = Blade(program), Blade(program)
        self.assertEqual(fed(first, "a 1\n"), [[]])
        self.assertEqual(fed(second, "c 5\n"), [[]])
        self.assertEqual(fed(first, "b 2\n"), [["a 1 b 2"]])
        self.assertEqual(fed(second, "d 6\n"), [["c 5 d 6"]])
        self.assertEqual((first.kept(), second.kept()), (1, 0))
        self.assertEqual((first.boxes(), second.boxes()), ({"a": 1}, {"c": 5}))
        self.assertEqual((first.finish(), second.finish()), (["a 1", "a 1"], ["c 5"]))

    def test_a_line_that_stands_twice_in_a_program(self):
        line = Line(FromTo(Like(pattern("a")), RowIs(2)), Say("x"))
        program = Program([line, Line(Always(), Drop()), line])
        self.assertEqual(fed(Blade(program), *["a\n"] * 4), [["x"]] * 4)
        program = Program([line, line])
        self.assertEqual(fed(Blade(program), *["a\n", "b\n", "b\n", "a\n"]),
                         [["x", "x", "a"], ["x", "x", "b"], ["b"], ["x", "x", "a"]])

    def test_a_condition_that_stands_twice_in_a_program(self):
        cond = FromTo(Like(pattern("a")), Like(pattern("b")))
        program = Program([Line(cond, Say("x")), Line(Not(cond), Say("y")), Line(cond, Drop())])
        self.assertEqual(fed(Blade(program), "c\n", "a\n", "c\n", "b\n", "c\n"), [["y", "c"], ["x"], ["x"], ["x"], ["y", "c"]])
        cond = Soon(1, pattern("a"))
        program = Program([Line(cond, Say("x")), Line(Not(cond), Drop())])
        self.assertEqual(fed(Blade(program), "b\n", "a\n", "b\n"), [[], ["x", "b"], []])


class FinishedTest(unittest.TestCase):
    def refused(self, deed, *arguments):
        with self.assertRaises(BladeError) as caught:
            deed(*arguments)
        self.assertIs(type(caught.exception), Finished)

    def test_each_time_behind_the_finish(self):
        for lines in ([], ["last: print"], ["join 2"], ["end: say \"x\""]):
            for pieces in ([], ["a"], ["a\n", "b"]):
                blade = blade_of(*lines)
                fed(blade, *pieces)
                blade.finish()
                for again in range(2):
                    self.refused(blade.feed, "a\n")
                    self.refused(blade.feed, "")
                    self.refused(blade.finish)

    def test_boxes_and_faults_stay(self):
        blade = blade_of("add 1 2")
        fed(blade, "a 1\nb\n")
        blade.finish()
        self.refused(blade.feed, "c 3\n")
        self.refused(blade.finish)
        self.assertEqual((blade.boxes(), blade.faults()), ({"a": 1}, [(2, 1)]))

    def test_another_blade_goes_on(self):
        program = read("print")
        first, second = Blade(program), Blade(program)
        first.finish()
        self.assertEqual(second.feed("a\n"), ["a", "a"])


class BoxesTest(unittest.TestCase):
    def test_behind_each_feed(self):
        blade = blade_of("add 1 2", "end: tell")
        self.assertEqual((blade.boxes(), blade.faults()), ({}, []))
        for piece, boxes, faults in [
            ("a 1", {}, []), ("\n", {"a": 1}, []), ("b\n", {"a": 1}, [(2, 1)]), ("", {"a": 1}, [(2, 1)]),
            ("b 2\na 3\nc", {"a": 4, "b": 2}, [(2, 1)]),
        ]:
            blade.feed(piece)
            self.assertEqual((blade.boxes(), blade.faults()), (boxes, faults))
        self.assertEqual(blade.finish(), ["c", "a 4", "b 2"])
        self.assertEqual((blade.boxes(), blade.faults()), ({"a": 4, "b": 2}, [(2, 1), (5, 1)]))

    def test_rows_that_wait_are_not_added(self):
        blade = blade_of("add 1 2", "soon 2 /x/: print")
        for row, boxes in [("a 1\n", {}), ("b 2\n", {}), ("c 3\n", {"a": 1}), ("d\n", {"a": 1, "b": 2})]:
            blade.feed(row)
            self.assertEqual((blade.boxes(), blade.faults()), (boxes, []))
        blade.finish()
        self.assertEqual((blade.boxes(), blade.faults()), ({"a": 1, "b": 2, "c": 3}, [(4, 1)]))

    def test_what_is_told_may_be_changed(self):
        blade = blade_of("add 1 2", "pile s", "end: bring s", "end: tell")
        blade.feed("a 1\n").append("more")
        blade.boxes()["a"] = 9
        blade.boxes()["b"] = 9
        blade.faults().append((9, 9))
        self.assertEqual((blade.boxes(), blade.faults()), ({"a": 1}, []))
        rows, boxes, faults = blade.feed("c\n"), blade.boxes(), blade.faults()
        before = copy.deepcopy((rows, boxes, faults))
        blade.feed("a 5\nd\n")
        self.assertEqual(blade.finish(), ["a 1", "c", "a 5", "d", "a 6"])
        self.assertEqual((rows, boxes, faults), before)

    def test_the_program_stays(self):
        lines = ["mark m", "from /a/ to row 3: pile s 2", "add 1 2", "last: join 2", "soon 2 /b/: print", "end: bring s"]
        program = read(text_of(lines))
        before = copy.deepcopy([plain(line) for line in program.lines])
        told = []
        for again in range(2):
            blade = Blade(program)
            told.append((fed(blade, "a 1\nb 2\n", "c\nd"), blade.kept(), blade.finish(), blade.boxes(), blade.faults()))
            self.assertEqual([plain(line) for line in program.lines], before)
            self.assertEqual(shown(program), text_of(lines))
        self.assertEqual(told[0], told[1])

    def test_lines_taken_from_the_program_later_change_nothing(self):
        program = read("print\nlast: say \"x\"\n")
        blade = Blade(program)
        program.lines.clear()
        self.assertEqual(fed(blade, "a\n", "b\n"), [[], ["a", "a"]])
        self.assertEqual(blade.finish(), ["b", "x", "b"])


class AheadTest(unittest.TestCase):
    def test_how_many_rows(self):
        for lines, many in [
            ([], 0), (["print"], 0), (["mark m", "go m"], 0), (["/a/: drop"], 0), (["row 9: drop"], 0), (["not /a/: drop"], 0),
            (["from /a/ to /b/: drop"], 0), (["from row 1 to row 9: drop"], 0), (["not from /a/ to row 9: drop"], 0),
            (["end: tell"], 0), (["join 9", "pile x 9"], 0),
            (["last: drop"], 1), (["not last: drop"], 1), (["soon 1 /a/: drop"], 1), (["not soon 1 /a/: drop"], 1),
            (["soon 2 /a/: drop"], 2), (["not soon 2 /a/: drop"], 2), (["soon 3 /a/: drop"], 3), (["not soon 3 /a/: drop"], 3),
            (["last: drop", "soon 1 /a/: drop"], 1), (["last: drop", "last: print"], 1),
            (["soon 1 /a/: drop", "soon 3 /a/: print", "soon 2 /b/: drop"], 3), (["last: drop", "soon 2 /a/: drop"], 2),
            (["soon 2 /a/: drop", "not last: drop", "/c/: drop", "end: tell"], 2), (["drop", "not soon 3 //: say \"x\""], 3),
        ]:
            with self.subTest(lines=lines):
                told = ahead(read(text_of(lines)))
                self.assertEqual(told, many)
                self.assertIs(type(told), int)

    def test_which_rows_are_given_by_then(self):
        for lines, told in [
            (["print"], [["a", "a"], ["b", "b"], ["c", "c"], ["d", "d"], []]),
            (["last: say \"x\""], [[], ["a"], ["b"], ["c"], ["x", "d"]]),
            (["not last: say \"x\""], [[], ["x", "a"], ["x", "b"], ["x", "c"], ["d"]]),
            (["soon 1 /c/: say \"x\""], [[], ["a"], ["x", "b"], ["c"], ["d"]]),
            (["soon 2 /c/: say \"x\""], [[], [], ["x", "a"], ["x", "b"], ["c", "d"]]),
            (["not soon 2 /c/: say \"x\""], [[], [], ["a"], ["b"], ["x", "c", "x", "d"]]),
            (["soon 3 /c/: say \"x\""], [[], [], [], ["x", "a"], ["x", "b", "c", "d"]]),
            (["last: drop", "soon 2 /d/: say \"x\""], [[], [], ["a"], ["x", "b"], ["x", "c"]]),
            (["/z/: drop", "from /b/ to row 3: say \"x\""], [["a"], ["x", "b"], ["x", "c"], ["d"], []]),
            (["row 4: drop"], [["a"], ["b"], ["c"], [], []]),
            (["join 2", "last: say \"x\""], [[], [], ["a b"], [], ["x", "c d"]]),
        ]:
            with self.subTest(lines=lines):
                blade = blade_of(*lines)
                self.assertEqual(fed(blade, "a\n", "b\n", "c\n", "d\n") + [blade.finish()], told)

    def test_a_row_is_seen_once_its_line_feed_came(self):
        blade = blade_of("soon 1 /b/: say \"x\"")
        self.assertEqual(fed(blade, "a\n", "b", "c", "\n", "d\n"), [[], [], [], ["x", "a"], ["bc"]])
        blade = blade_of("soon 1 /b/: say \"x\"")
        self.assertEqual(fed(blade, "a\nb"), [[]])
        self.assertEqual(blade.finish(), ["x", "a", "b"])


class EndlessTest(unittest.TestCase):
    def refused(self, lines, pieces, row, line, finish=False):
        """The last piece, or the finish, is refused, and so is the walk."""
        with self.subTest(lines=lines, pieces=pieces):
            blade = blade_of(*lines)
            fed(blade, *(pieces if finish else pieces[:-1]))
            for deed in (blade.finish if finish else lambda: blade.feed(pieces[-1]),
                         lambda: walk(read(text_of(lines)), "".join(pieces))):
                with self.assertRaises(BladeError) as caught:
                    deed()
                self.assertIs(type(caught.exception), Endless)
                self.assertEqual((caught.exception.row, caught.exception.line), (row, line))

    def test_no_row_ahead(self):
        self.refused(["mark m", "go m"], ["", "a", "\n"], 1, 2)
        self.refused(["mark m", "/b/: go m"], ["a\n", "b", "", "\nc\nd"], 2, 2)
        self.refused(["mark m", "/b/: go m"], ["a\nb\nc\n"], 2, 2)
        self.refused(["join 2", "mark m", "print", "/b/: go m"], ["a\n", "b\n"], 2, 3)

    def test_one_row_ahead(self):
        self.refused(["mark m", "go m", "last: drop"], ["a\n", "b", "\n"], 1, 2)
        self.refused(["mark m", "last: drop", "not last: go m"], ["a\n", "b\n"], 1, 2)
        self.refused(["soon 1 /b/: go m", "done", "mark m", "go m"], ["a\n", "b\n"], 1, 4)

    def test_several_rows_ahead(self):
        self.refused(["mark m", "/b/: go m", "soon 2 /x/: drop"], ["a\n", "b\n", "c\n", "d\n"], 2, 2)
        self.refused(["mark m", "go m", "soon 3 /x/: drop"], ["a\nb\nc", "\n", "d\n"], 1, 2)
        self.refused(["mark m", "go m", "soon 3 /x/: drop"], ["a\nb\nc", "\nd\ne"], 1, 2)

    def test_at_the_finish(self):
        self.refused(["mark m", "go m"], ["a"], 1, 2, finish=True)
        self.refused(["mark m", "/b/: go m"], ["a\n", "b"], 2, 2, finish=True)
        self.refused(["mark m", "last: go m"], ["a\n", "b\n"], 2, 2, finish=True)
        self.refused(["mark m", "last: go m"], ["a\n", "b"], 2, 2, finish=True)
        self.refused(["mark m", "/b/: go m", "soon 2 /x/: drop"], ["a\n", "b\n", "c\n"], 2, 2, finish=True)
        self.refused(["join 3", "mark m", "last: go m"], ["a\n", "b\n"], 2, 3, finish=True)

    def test_behind_rows_that_were_given(self):
        blade = blade_of("mark m", "/b/: go m")
        self.assertEqual(fed(blade, "a\n", "c\n"), [["a"], ["c"]])
        with self.assertRaises(Endless):
            blade.feed("b\n")


class KeptTest(unittest.TestCase):
    def check(self, lines, pieces, kept):
        """What is kept ahead of all pieces and behind each."""
        with self.subTest(lines=lines, pieces=pieces):
            blade = blade_of(*lines)
            told = [blade.kept()]
            for piece in pieces:
                blade.feed(piece)
                told.append(blade.kept())
            self.assertEqual(told, kept)

    def test_nothing(self):
        self.check([], [], [0])
        self.check(["pile s", "join 3", "last: drop"], ["", ""], [0, 0, 0])
        self.check(["print", "say \"x\"", "add 1 2"], ["a 1\n", "b\n"], [0, 0, 0])

    def test_signs_behind_the_last_line_feed(self):
        self.check([], ["a", "b\nc", "d"], [0, 0, 0, 0])
        self.check(["last: drop"], ["a", "\n", "b", "\nc"], [0, 0, 1, 1, 1])

    def test_rows_that_wait_to_be_seen_ahead(self):
        self.check(["last: drop"], ["a\n", "b\n", "c\n"], [0, 1, 1, 1])
        self.check(["soon 2 /x/: drop"], ["a\n", "b\n", "c\n", "d\n"], [0, 1, 2, 2, 2])
        self.check(["soon 3 /x/: drop"], ["a\nb\n", "c\n", "d\ne\n"], [0, 2, 3, 3])

    def test_a_hand_that_waits_at_a_join(self):
        self.check(["join 2"], ["a\n", "b\n", "c\n"], [0, 1, 0, 1])
        self.check(["mark m", "join 3", "go m"], ["a\n", "b\n", "c\n", "d\n"], [0, 1, 2, 0, 1])
        self.check(["join 4", "join 4", "join 4"], ["a\n", "b\n", "c\n", "d\n"], [0, 1, 2, 3, 0])
        self.check(["/a/: join 2"], ["b\n", "a\n", "a\n"], [0, 0, 1, 0])
        self.check(["join 2", "last: drop"], ["a\n", "b\n", "c\n", "d\n"], [0, 1, 2, 1, 2])

    def test_things_on_shelves(self):
        self.check(["pile s"], ["a\n", "b\n", "c\nd\n"], [0, 1, 2, 4])
        self.check(["pile s 2"], ["a\n", "b\n", "c\nd\n"], [0, 1, 2, 2])
        self.check(["pile s 1", "drop"], ["a\n", "b\n"], [0, 1, 1])
        self.check(["pile s", "pile t", "pile s"], ["a\n", "b\n"], [0, 3, 6])
        self.check(["/a/: pile s", "/b/: pile t 1"], ["a\n", "b\n", "c\n", "a\n", "b\n"], [0, 1, 2, 2, 3, 3])

    def test_a_number_told_by_one_of_two_piles(self):
        self.check(["/a/: pile s", "/b/: pile s 2"], ["a\n", "a\n", "a\n", "b\n", "a\n"], [0, 1, 2, 3, 2, 3])

    def test_things_of_several_rows(self):
        self.check(["join 2", "pile s"], ["a\n", "b\n", "c\n", "d\n"], [0, 1, 2, 3, 4])
        self.check(["join 2", "pile s 1"], ["a\n", "b\n", "c\n", "d\n"], [0, 1, 2, 3, 2])
        self.check(["join 3", "join 3", "pile s 2"], [sign + "\n" for sign in "abcdefghij"], [0, 1, 2, 3, 4, 5, 6, 7, 8, 6, 7])

    def test_a_thing_piled_from_a_hand_that_is_joined_on_afterwards(self):
        self.check(["pile s", "join 2", "drop"], ["a\n", "b\n", "c\n", "d\n"], [0, 2, 1, 3, 2])
        self.check(["pile s 1", "join 2", "pile s 2"], ["a\n", "b\n", "c\n", "d\n"], [0, 2, 3, 2, 3])

    def test_swaps_change_no_number(self):
        self.check(["swap every /./ \"\"", "pile s"], ["a\n", "b\n"], [0, 1, 2])
        self.check(["join 2", "swap / / \"\"", "pile s"], ["a\n", "b\n"], [0, 1, 2])

    def test_behind_a_bring(self):
        self.check(["pile s", "/b/: bring s"], ["a\n", "a\n", "b\n", "a\n"], [0, 1, 2, 0, 1])
        self.check(["/b/: bring s", "pile s"], ["a\n", "a\n", "b\n", "a\n"], [0, 1, 2, 1, 2])
        self.check(["pile s", "pile t", "/b/: bring s"], ["a\n", "b\n"], [0, 2, 2])
        self.check(["bring s"], ["a\n"], [0, 0])

    def test_all_together(self):
        lines = ["pile s 2", "join 2", "pile t", "soon 1 /z/: drop"]
        self.check(lines, ["a\n", "b\n", "c\n", "d\n", "e\n", "f"], [0, 1, 3, 4, 6, 7, 7])


class ManyBladesTest(unittest.TestCase):
    def told_by_blade(self, program, pieces):
        blade = Blade(program)
        rows = [row for piece in pieces for row in blade.feed(piece)]
        return rows + blade.finish(), blade.boxes(), blade.faults()

    def test_however_the_text_is_cut(self):
        made_up = MadeUp(30)
        refused = 0
        for again in range(1500):
            lines, text = made_up.program(), made_up.text()
            told = plain_walk(lines, text)
            pieces = made_up.pieces(text)
            self.assertEqual("".join(pieces), text)
            for some in (pieces, list(text), [text]):
                with self.subTest(lines=lines, pieces=some):
                    try:
                        self.assertEqual(self.told_by_blade(read(lines), some), told[:3])
                    except Endless as error:
                        self.assertEqual(("endless", error.row, error.line), told)
                        refused += 1
        self.assertTrue(300 < refused < 3000)

    def test_row_by_row(self):
        """Which feed gives each row, what is kept behind it, and which feed is refused."""
        made_up = MadeUp(31)
        for again in range(1200):
            lines, rows = made_up.program(), made_up.rows(10)
            program = read(lines)
            self.assertEqual(ahead(program), plain_ahead(lines))
            blade, given = Blade(program), []
            for many in range(1, len(rows) + 1):
                told = PlainBlade(lines, rows[:many])
                with self.subTest(lines=lines, rows=rows[:many]):
                    try:
                        given += blade.feed(rows[many - 1] + "\n")
                    except Endless as error:
                        self.assertEqual(("endless", error.row, error.line), told.refused)
                        break
                    self.assertEqual((given, blade.boxes(), blade.faults(), blade.kept()),
                                     (told.given(), told.boxes, told.faults, told.kept()))
                    self.assertIsNone(told.refused)

    def test_what_is_given_behind_some_rows_is_what_any_walk_gives_ahead_of_its_want(self):
        made_up = MadeUp(32)
        for again in range(600):
            lines, rows, more = made_up.program(), made_up.rows(5), made_up.rows(4) + ["a"]
            program = read(lines)
            try:
                log = walk(program, text_of(rows + more))[3]
            except Endless:
                continue
            most = len(rows) - ahead(program)
            stop = [entry[0] == "want" and entry[1] > most for entry in log].index(True)
            given = [entry[1] for entry in log[:stop] if entry[0] == "give"]
            self.assertEqual(Blade(program).feed(text_of(rows)), given, (lines, rows))


if __name__ == "__main__":
    unittest.main()
