"""The plan of a run, done and undone, points 2, 36 to 38."""

import copy
import unittest

from helpers import plain, text_of
from madeup import MadeUp
from oracle import plain_walk
from rowblade.errors import BladeError, Endless, NotThat
from rowblade.plans import back, done, fits, plan
from rowblade.reading import read
from rowblade.rows import cut
from rowblade.walk import run


def plan_of(lines, text):
    return plan(read(text_of(lines)), text)


def plain_plan(lines, text):
    """The plan by the words of point 36, from the log of the tests' own walk."""
    given, boxes, faults, log = plain_walk(lines, text)
    rows = text.split("\n")
    ended = rows[-1] == ""
    rows = rows[:-1] if ended else rows
    made_ended = ended or not given or given[-1] == ""
    turns = [[]]
    for entry in log:
        if entry == ("over",):
            turns.append([])
        else:
            turns[-1].append(entry)
    hunks, at = [], 0
    # The last one finds no row and ends with what the lines with end give.
    for turn in turns:
        old = [rows[entry[1] - 1] for entry in turn if entry[0] == "take"]
        new = [entry[1] for entry in turn if entry[0] == "give"]
        if old != new:
            hunks.append((at, old, new))
        at += len(old)
    return (len(rows), ended), (len(given), made_ended), hunks


class PlanTest(unittest.TestCase):
    def check(self, lines, text, before, behind, hunks):
        with self.subTest(lines=lines, text=text):
            self.assertEqual(plan_of(lines, text), (before, behind, hunks))

    def test_nothing_changed(self):
        self.check([], "", (0, True), (0, True), [])
        self.check([], "a\nb\n", (2, True), (2, True), [])
        self.check([], "a\nb", (2, False), (2, False), [])
        self.check(["done"], "a\n\n", (2, True), (2, True), [])
        self.check(["/c/: drop", "end: tell", "pile x", "add 1 2"], "a\nb", (2, False), (2, False), [])
        self.check(["swap /a/ \"a\""], "a\n", (1, True), (1, True), [])
        self.check(["say \"a\"", "drop"], "a\na\n", (2, True), (2, True), [])

    def test_other_rows(self):
        self.check(["swap /a/ \"b\""], "a\nb\na\n", (3, True), (3, True), [(0, ["a"], ["b"]), (2, ["a"], ["b"])])

    def test_more_rows(self):
        self.check(["/b/: print"], "a\nb\nc\n", (3, True), (4, True), [(1, ["b"], ["b", "b"])])
        self.check(["/b/: say \"x\"", "/b/: say \"y\""], "b\nc", (2, False), (4, False), [(0, ["b"], ["x", "y", "b"])])

    def test_fewer_rows(self):
        self.check(["/b/: drop"], "a\nb\nb\nc\n", (4, True), (2, True), [(1, ["b"], []), (2, ["b"], [])])
        self.check(["join 2"], "a\nb\nc\n", (3, True), (2, True), [(0, ["a", "b"], ["a b"])])
        self.check(["join 2", "drop"], "a\nb\nc\n", (3, True), (1, True), [(0, ["a", "b"], [])])

    def test_a_join_that_finds_no_row(self):
        self.check(["join 2"], "a", (1, False), (1, False), [])
        self.check(["print", "join 2"], "a\n", (1, True), (2, True), [(0, ["a"], ["a", "a"])])

    def test_a_turn_with_a_join_that_gives_its_rows_one_by_one(self):
        lines = ["print", "join 2", "swap /^.* / \"\""]
        self.check(lines, "a\nb\nc\nd\n", (4, True), (4, True), [])
        self.check(lines, "a\nb\nc\n", (3, True), (4, True), [(2, ["c"], ["c", "c"])])
        self.check(["join 2", "say \"a\"", "say \"b\"", "drop"], "a\nb\n", (2, True), (2, True), [])
        self.check(["join 2", "say \"a\"", "say \"b\"", "drop"], "b\na\n", (2, True), (2, True), [(0, ["b", "a"], ["a", "b"])])

    def test_things_brought_back(self):
        lines = ["/a/: pile x", "/a/: drop", "/b/: bring x"]
        self.check(lines, "a\nb\nc\n", (3, True), (3, True), [(0, ["a"], []), (1, ["b"], ["a", "b"])])

    def test_the_lines_with_end(self):
        self.check(["end: say \"x\""], "", (0, True), (1, True), [(0, [], ["x"])])
        self.check(["end: say \"x\"", "end: say \"y\""], "a\nb", (2, False), (4, False), [(2, [], ["x", "y"])])
        self.check(["end: say \"x\"", "drop"], "a\nb\n", (2, True), (1, True), [(0, ["a"], []), (1, ["b"], []), (2, [], ["x"])])
        self.check(["pile x", "drop", "end: bring x"], "a\n", (1, True), (1, True), [(0, ["a"], []), (1, [], ["a"])])
        self.check(["end: bring x", "end: tell"], "a\n", (1, True), (1, True), [])
        self.check(["add 1 2", "end: tell"], "a 1\n", (1, True), (2, True), [(1, [], ["a 1"])])

    def test_ended_or_not(self):
        self.check(["swap /a/ \"\""], "b\na", (2, False), (2, True), [(1, ["a"], [""])])
        self.check(["swap /a/ \"\""], "a\nb", (2, False), (2, False), [(0, ["a"], [""])])
        self.check(["/b/: drop"], "\nb", (2, False), (1, True), [(1, ["b"], [])])
        self.check(["/b/: drop"], "a\nb", (2, False), (1, False), [(1, ["b"], [])])
        self.check(["drop"], "a", (1, False), (0, True), [(0, ["a"], [])])
        self.check(["drop"], "a\n", (1, True), (0, True), [(0, ["a"], [])])
        self.check(["end: say \"\""], "a", (1, False), (2, True), [(1, [], [""])])

    def test_the_kinds_of_what_is_told(self):
        told = plan_of(["/a/: drop", "end: say \"x\""], "a\nb")
        self.assertEqual([type(part) for part in told], [tuple, tuple, list])
        for size in told[:2]:
            self.assertEqual([type(part) for part in size], [int, bool])
        for hunk in told[2] + back(told)[2]:
            self.assertIs(type(hunk), tuple)
            self.assertEqual([type(part) for part in hunk], [int, list, list])

    def test_a_walk_that_is_refused(self):
        for lines, text, row, line in [
            (["mark m", "/b/: go m"], "a\nb\nc\n", 2, 2), (["mark m", "last: go m"], "a\nb", 2, 2),
            (["say \"x\"", "mark m", "print", "go m"], "a", 1, 3),
        ]:
            with self.assertRaises(BladeError) as caught:
                plan_of(lines, text)
            self.assertIs(type(caught.exception), Endless)
            self.assertEqual((caught.exception.row, caught.exception.line), (row, line))

    def test_by_their_arguments(self):
        one = plan(program=read("drop"), text="a\n")
        self.assertIs(fits(one=one, text="a\n"), True)
        self.assertEqual(done(one=one, text="a\n"), "")
        self.assertEqual(back(one=one), ((0, True), (1, True), [(0, [], ["a"])]))


class FitsTest(unittest.TestCase):
    def fitting(self, one, text, made):
        with self.subTest(one=one, text=text):
            self.assertIs(fits(one, text), True)
            self.assertEqual(done(one, text), made)

    def refused(self, one, text):
        with self.subTest(one=one, text=text):
            self.assertIs(fits(one, text), False)
            with self.assertRaises(BladeError) as caught:
                done(one, text)
            self.assertIs(type(caught.exception), NotThat)

    def test_rows_off_the_hunks_may_be_others(self):
        one = plan_of(["/b/: say \"x\"", "/b/: drop"], "a\nb\nc\n")
        self.fitting(one, "a\nb\nc\n", "a\nx\nc\n")
        self.fitting(one, "\nb\nbb\n", "\nx\nbb\n")
        self.fitting(one, "b\nb\n\n", "b\nx\n\n")

    def test_one_row_more_or_fewer(self):
        one = plan_of(["/b/: drop"], "a\nb\nc\n")
        for text in ("a\nb\nc\nd\n", "a\nb\n", "", "b\n", "a\nb\nc\n\n"):
            self.refused(one, text)
        for text in ("a\n", "a", "\n"):
            self.refused(plan_of([], ""), text)
        self.refused(plan_of([], "a\n"), "")

    def test_ended_otherwise(self):
        self.refused(plan_of(["/b/: drop"], "a\nb\nc\n"), "a\nb\nc")
        self.refused(plan_of(["/b/: drop"], "a\nb\nc"), "a\nb\nc\n")
        self.refused(plan_of([], "a"), "a\n")
        self.refused(plan_of([], "a\n"), "a")

    def test_an_old_row_otherwise(self):
        one = plan_of(["/b/: drop", "/c/: join 2"], "a\nb\nc\nd\n")
        self.fitting(one, "z\nb\nc\nd\n", "z\nc d\n")
        for text in ("a\nbb\nc\nd\n", "a\n\nc\nd\n", "b\na\nc\nd\n", "a\nb\nd\nc\n", "a\nb\nc\n\n", "a\nb\nx\nd\n"):
            self.refused(one, text)

    def test_what_is_made_would_be_ended_though_behind_says_otherwise(self):
        one = plan_of(["/b/: drop"], "a\nb")
        self.assertEqual(one[1], (1, False))
        self.fitting(one, "c\nb", "c")
        self.refused(one, "\nb")
        one = plan_of(["/b/: drop"], "c\na\nb\nb")
        self.fitting(one, "\na\nb\nb", "\na")
        self.refused(one, "c\n\nb\nb")

    def test_ended_as_behind_says(self):
        one = plan_of(["/b/: drop"], "\nb")
        self.assertEqual(one[1], (1, True))
        self.fitting(one, "\nb", "\n")
        self.fitting(one, "a\nb", "a\n")
        one = plan_of(["swap /b/ \"\""], "a\nb")
        self.fitting(one, "c\nb", "c\n\n")

    def test_hunks_at_the_end_of_the_text(self):
        one = plan_of(["end: say \"x\"", "/b/: drop"], "a\nb")
        self.fitting(one, "c\nb", "c\nx")
        self.fitting(one, "\nb", "\nx")
        one = plan_of(["end: say \"x\""], "")
        self.fitting(one, "", "x\n")
        self.refused(one, "\n")

    def test_no_rows_are_left(self):
        one = plan_of(["drop"], "a\nb")
        self.fitting(one, "a\nb", "")
        self.refused(one, "a\nc")

    def test_what_is_handed_in_stays(self):
        one = plan_of(["/b/: print", "/c/: drop", "end: say \"x\""], "a\nb\nc\n")
        before = copy.deepcopy(one)
        for text in ("a\nb\nc\n", "z\nb\nc\n", "a\nb\nd\n", ""):
            fits(one, text)
            try:
                done(one, text)
            except NotThat:
                pass
        back(one)
        self.assertEqual(one, before)
        program = read("/b/: print\nend: say \"x\"\n")
        lines = copy.deepcopy([plain(line) for line in program.lines])
        self.assertEqual(plan(program, "a\nb"), plan(program, "a\nb"))
        self.assertEqual([plain(line) for line in program.lines], lines)

    def test_what_is_told_may_be_changed(self):
        lines, text = ["/b/: print", "/c/: drop", "end: say \"x\""], "a\nb\nc\n"
        one = plan_of(lines, text)
        told = back(one)
        kept = copy.deepcopy((one, told))
        for at, old, new in told[2]:
            old.append("more")
            new.clear()
        told[2].clear()
        self.assertEqual(one, kept[0])
        self.assertEqual(back(one), kept[1])
        for at, old, new in one[2]:
            old.clear()
            new.append("more")
        self.assertEqual(plan_of(lines, text), kept[0])


class BackTest(unittest.TestCase):
    def check(self, lines, text, told):
        one = plan_of(lines, text)
        with self.subTest(lines=lines, text=text):
            self.assertEqual(back(one), told)
            self.assertEqual(back(told), one)
            self.assertIs(fits(told, done(one, text)), True)
            self.assertEqual(done(told, done(one, text)), text)

    def test_nothing_changed(self):
        self.check([], "a\nb", ((2, False), (2, False), []))
        self.check([], "", ((0, True), (0, True), []))

    def test_places_behind_hunks_that_grow(self):
        self.check(["/b/: print"], "a\nb\nb\nc\nb\n", ((8, True), (5, True), [
            (1, ["b", "b"], ["b"]), (3, ["b", "b"], ["b"]), (6, ["b", "b"], ["b"])]))

    def test_places_behind_hunks_that_shrink(self):
        self.check(["/b/: drop"], "b\na\nb\nb\na\n", ((2, True), (5, True), [(0, [], ["b"]), (1, [], ["b"]), (1, [], ["b"])]))
        self.check(["join 3", "join 3"], "a\nb\nc\nd\ne\nf\n", ((2, True), (6, True), [
            (0, ["a b c"], ["a", "b", "c"]), (1, ["d e f"], ["d", "e", "f"])]))

    def test_both(self):
        self.check(["/a/: drop", "/b/: print", "end: say \"x\""], "a\nb\nc\na\nb", ((6, False), (5, False), [
            (0, [], ["a"]), (0, ["b", "b"], ["b"]), (3, [], ["a"]), (3, ["b", "b"], ["b"]), (5, ["x"], [])]))

    def test_ended_otherwise(self):
        self.check(["swap /a/ \"\""], "b\na", ((2, True), (2, False), [(1, [""], ["a"])]))
        self.check(["drop"], "a\nb", ((0, True), (2, False), [(0, [], ["a"]), (0, [], ["b"])]))
        self.check(["/b/: drop"], "\nb", ((1, True), (2, False), [(1, [], ["b"])]))

    def test_back_on_another_text(self):
        told = back(plan_of(["/b/: drop"], "a\nb\nc\n"))
        self.assertEqual(done(told, "x\n\n"), "x\nb\n\n")
        for text in ("x\n", "x\ny", "x\ny\nz\n"):
            self.assertIs(fits(told, text), False)
            with self.assertRaises(NotThat):
                done(told, text)
        # What comes back would end with an empty row, and the text was not ended.
        told = back(plan_of(["/a/: drop"], "a\nb"))
        self.assertEqual(done(told, "c"), "a\nc")
        told = back(plan_of(["end: say \"x\""], "a"))
        self.assertEqual(done(told, "b\nx"), "b")
        self.assertIs(fits(told, "\nx"), False)


class ManyPlansTest(unittest.TestCase):
    def others(self, made_up, one, text):
        """Texts that are like it, some of them otherwise in a row or at the end."""
        rows = cut(text)[0]
        for again in range(4):
            changed = list(rows)
            if changed:
                changed[made_up.chance.randrange(len(changed))] = made_up.pick(made_up.ROWS)
            yield "\n".join(changed) + ("\n" if text.endswith("\n") else "")
        yield text + "\n"
        yield text[:-1]

    def check_fits(self, one, text):
        """Point 37, word by word."""
        rows, ended = cut(text)
        if (len(rows), ended) != one[0] or any(rows[at:at + len(old)] != old for at, old, new in one[2]):
            self.assertIs(fits(one, text), False)
            return False
        made = [[row] for row in rows] + [[]]
        for at, old, new in one[2]:
            made[at] = new + (made[at] if not old else [])
            for place in range(at + 1, at + len(old)):
                made[place] = []
        made = [row for some in made for row in some]
        if not one[1][1] and made[-1:] == [""]:
            self.assertIs(fits(one, text), False)
            return False
        self.assertIs(fits(one, text), True)
        self.assertEqual(done(one, text), "\n".join(made) + ("\n" if made and one[1][1] else ""))
        return True

    def test_plans_done_and_undone(self):
        made_up = MadeUp(36)
        fitting = [0, 0]
        for again in range(2500):
            lines, text = made_up.program(), made_up.text()
            program = read(lines)
            try:
                one = plan(program, text)
            except Endless as error:
                self.assertEqual(("endless", error.row, error.line), plain_walk(lines, text))
                continue
            with self.subTest(lines=lines, text=text):
                self.assertEqual(one, plain_plan(lines, text))
                self.assertIs(fits(one, text), True)
                self.assertEqual(done(one, text), run(program, text))
                self.assertEqual((done(back(one), run(program, text)), back(back(one))), (text, one))
                for other in self.others(made_up, one, text):
                    fitting[self.check_fits(one, other)] += 1
                    if fits(one, other):
                        self.assertEqual(done(back(one), done(one, other)), other)
        self.assertGreater(min(fitting), 1000)


if __name__ == "__main__":
    unittest.main()
