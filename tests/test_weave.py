"""Two programs woven into one, points 2 and 41."""

import copy
import itertools
import unittest

from helpers import plain, rebuilt, text_of
from madeup import MadeUp
from oracle import plain_walk
from rowblade.errors import BladeError, Endless, NotWoven
from rowblade.lines import Program
from rowblade.reading import read
from rowblade.showing import shown
from rowblade.walk import run, walk
from rowblade.weave import woven


class WovenTest(unittest.TestCase):
    def check(self, first, second):
        with self.subTest(first=first, second=second):
            told = woven(read(text_of(first)), read(text_of(second)))
            self.assertIs(type(told), Program)
            self.assertEqual(shown(told), text_of(first + second))
            self.assertEqual([plain(line) for line in told.lines],
                             [plain(line) for line in read(text_of(first + second)).lines])

    def refused(self, first, second):
        with self.subTest(first=first, second=second):
            with self.assertRaises(BladeError) as caught:
                woven(read(text_of(first)), read(text_of(second)))
            self.assertIs(type(caught.exception), NotWoven)

    def test_no_lines(self):
        self.check([], [])
        self.check(["drop"], [])
        self.check([], ["print"])

    def test_drops_with_whatever_condition(self):
        for cond in ("", "row 3: ", "last: ", "/a/: ", "soon 3 /a/: ", "from /a/ to row 3: ", "not row 3: ", "not last: ",
                     "not /a/: ", "not soon 2 /a/: ", "not from row 2 to /a/: "):
            self.check([cond + "drop"], ["print"])
            self.check(["/b/: drop", cond + "drop"], [])

    def test_another_deed_than_drop(self):
        for line in ("print", "done", "say \"x\"", "swap /a/ \"b\"", "swap every /a/ \"b\"", "join 2", "pile x 2", "pile x",
                     "bring x", "add 1 2", "end: tell", "end: say \"x\"", "end: bring x", "mark m", "/a/: print"):
            self.refused([line], [])
            self.refused(["drop", line], ["print"])
            self.refused([line, "/a/: drop"], ["print"])
        self.refused(["mark m", "go m"], [])

    def test_what_the_second_may_have(self):
        for line in ("drop", "print", "done", "say \"x\"", "swap /a/ \"b\"", "swap every /a/ \"b\"", "pile x 2", "pile x",
                     "bring x", "add 1 2", "mark m"):
            self.check(["/b/: drop"], [line])
        for cond in ("/a/: ", "not /a/: ", "/^$/: ", "not //: "):
            self.check(["/b/: drop"], [cond + "drop", "print"])
        for line in ("end: tell", "end: say \"x\"", "end: bring x"):
            self.check(["/b/: drop"], ["pile x", "add 1 2", line])
        self.check(["/b/: drop"], ["mark m", "/a/: go n", "not /c/: go m", "mark n"])

    def test_a_second_with_a_join(self):
        for line in ("join 2", "/a/: join 9", "not /a/: join 3"):
            self.refused(["/b/: drop"], [line])
            self.refused([], ["print", line])

    def test_a_second_with_another_condition(self):
        for cond in ("row 3", "last", "soon 1 /a/", "soon 3 /a/", "from /a/ to /b/", "from row 1 to row 2", "from /a/ to row 2"):
            for line in (f"{cond}: print", f"not {cond}: drop"):
                self.refused(["/b/: drop"], [line])
                self.refused([], [line])
                self.refused([], ["print", line, "end: tell"])

    def test_how_many_lines(self):
        for many in (0, 1, 12, 23, 24):
            self.check(["/a/: drop"] * many, ["print"] * (24 - many))
            if many > 0:
                self.refused(["/a/: drop"] * many, ["print"] * (25 - many))
        self.refused(["/a/: drop"] * 24, ["print"] * 24)
        self.refused(["/a/: drop"], ["end: tell"] * 24)

    def test_both_stay(self):
        first, second = read("/a/: drop\nlast: drop\n"), read("not /b/: print\nswap /[cd]/ \"e\"\nend: tell\n")
        before = copy.deepcopy([[plain(line) for line in one.lines] for one in (first, second)])
        told = woven(first, second)
        lines = shown(told)
        told.lines.clear()
        self.assertEqual([[plain(line) for line in one.lines] for one in (first, second)], before)
        told = woven(first, second)
        first.lines.clear()
        second.lines[1].deed.words = "f"
        second.lines.pop()
        self.assertEqual(shown(told), lines)
        self.assertEqual(run(told, "a\nb\nc\nd\n"), "b\nc\ne\n")

    def test_a_refusal_changes_nothing(self):
        first, second = read("print"), read("last: drop")
        self.refused(["print"], ["last: drop"])
        with self.assertRaises(NotWoven):
            woven(first, second)
        self.assertEqual((shown(first), shown(second)), ("print\n", "last: drop\n"))

    def test_programs_made_of_their_parts(self):
        first, second = read("not soon 2 /a+b/: drop\n"), read("mark m\nnot /[.]/: print\npile x 2\nend: bring x\n")
        self.assertEqual(shown(woven(rebuilt(first), rebuilt(second))), shown(first) + shown(second))

    def test_by_their_arguments(self):
        self.assertEqual(shown(woven(first=read("drop"), second=read("print"))), "drop\nprint\n")


class OneBehindTheOtherTest(unittest.TestCase):
    def check(self, first, second, text):
        program = woven(read(first), read(second))
        between = plain_walk(first, text)
        self.assertNotEqual(between[0], "endless")
        # How the text between them is ended changes no row.
        told = plain_walk(second, text_of(between[0]))
        try:
            made = walk(program, text)
        except Endless:
            self.assertEqual(told[0], "endless", (first, second, text))
            return False
        self.assertEqual(made[:2], told[:2], (first, second, text))
        return True

    def test_short_texts(self):
        for first in ("", "drop\n", "row 1: drop\n", "last: drop\n", "/a/: drop\n", "from /a/ to /b/: drop\n", "soon 1 /b/: drop\n"):
            for second in ("", "print\n", "/b/: done\npile x 1\nadd 1 2\nend: bring x\nend: tell\n", "mark m\n/b/: go m\n"):
                for many in range(4):
                    for rows in itertools.product(["", "a", "b 2"], repeat=many):
                        self.check(first, second, text_of(rows))
                        self.check(first, second, "\n".join(rows))

    def test_many_made_up(self):
        made_up = MadeUp(42)
        told = [0, 0]
        for again in range(1500):
            first = text_of(f"{made_up.cond()}: drop" for line in range(made_up.chance.randint(0, 4)))
            names = made_up.pick([[], ["m"], ["m", "n"]])
            lines = ["mark " + name for name in names]
            while len(lines) < made_up.chance.randint(0, 9):
                deed = made_up.pick([made_up.deed(names)] + ["go " + name for name in names])
                cond = made_up.pick(["", "", made_up.pat() + ": ", "not " + made_up.pat() + ": "])
                ends = "end: " + made_up.pick(["tell", "bring x", "say \"e\""])
                lines.append(made_up.pick([cond + deed] * 6 + [ends]))
            lines = [line for line in lines if "join" not in line]
            made_up.chance.shuffle(lines)
            told[self.check(first, text_of(lines), made_up.text())] += 1
        self.assertGreater(min(told), 100)


if __name__ == "__main__":
    unittest.main()
