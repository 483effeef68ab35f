"""What is promised over the whole, points 2 and 3: all ways to run a program do the same."""

import copy
import unittest

from helpers import plain, rebuilt
from madeup import Bounded, MadeUp
from oracle import plain_walk
from rowblade.blade import Blade, ahead
from rowblade.chain import Chain, through
from rowblade.errors import Endless
from rowblade.looker import endless, needed
from rowblade.manytexts import done_all, plan_all
from rowblade.plans import back, done, plan
from rowblade.reading import read
from rowblade.rows import pasted
from rowblade.showing import shown
from rowblade.walk import run, walk


def refusal_or(deed):
    """What a deed tells, or the fields of its refusal."""
    try:
        return deed()
    except Endless as error:
        return ("endless", error.row, error.line)


def fed_through(blade, pieces):
    rows = [row for piece in pieces for row in blade.feed(piece)]
    return rows + blade.finish()


def by_blade(program, pieces):
    blade = Blade(program)
    return fed_through(blade, pieces), blade.boxes(), blade.faults()


class WholeTest(unittest.TestCase):
    def check(self, program, text, pieces, told):
        refused = told[0] == "endless"
        self.assertEqual(refusal_or(lambda: walk(program, text)), told)
        self.assertEqual(refusal_or(lambda: by_blade(program, pieces)), told if refused else told[:3])
        made = told if refused else pasted(told[0], text == "" or text.endswith("\n"))
        self.assertEqual(refusal_or(lambda: run(program, text)), made)
        self.assertEqual(refusal_or(lambda: done(plan(program, text), text)), made)
        if refused:
            for deed in (lambda: plan_all(program, {"x": text}), lambda: fed_through(Chain([program]), pieces),
                         lambda: through([program], text)):
                self.assertEqual(refusal_or(deed)[0], "endless")
        else:
            self.assertEqual(through([program], text), made)
            self.assertEqual(fed_through(Chain([program]), pieces), told[0])
            self.assertEqual(done_all(plan_all(program, {"x": text}), {"x": text}), {"x": made})
            self.assertEqual(done(back(plan(program, text)), made), text)

    def test_many_made_up(self):
        made_up = MadeUp(3)
        for again in range(700):
            lines, text = made_up.program(), made_up.text()
            pieces = made_up.pieces(text)
            program = read(lines)
            told = plain_walk(lines, text)
            with self.subTest(lines=lines, text=text):
                for one in (program, read(shown(program)), rebuilt(program)):
                    self.assertEqual(shown(one), lines)
                    self.check(one, text, pieces, told)

    def test_long_texts(self):
        made_up = MadeUp(4)
        for again in range(25):
            lines = made_up.program()
            text = "\n".join(made_up.pick(made_up.ROWS) for row in range(300)) + made_up.pick(["", "\n"])
            told = plain_walk(lines, text)
            with self.subTest(lines=lines):
                self.check(read(lines), text, made_up.pieces(text), told)

    def test_the_same_calls_tell_the_same(self):
        made_up = MadeUp(5)
        for again in range(100):
            lines, text = made_up.program(), made_up.text()
            program = read(lines)
            before = copy.deepcopy([plain(line) for line in program.lines])
            told = []
            for again in range(2):
                told.append([refusal_or(deed) for deed in (
                    lambda: walk(program, text), lambda: by_blade(program, [text]), lambda: ahead(program),
                    lambda: plan(program, text), lambda: through([program, program], text), lambda: shown(program),
                )])
            self.assertEqual(told[0], told[1])
            self.assertEqual([plain(line) for line in program.lines], before)

    def test_what_the_looker_tells_holds_of_programs_made_of_their_parts(self):
        made_up = Bounded(6)
        for again in range(60):
            program = read(made_up.program()[1])
            for deed in (needed, endless):
                self.assertEqual(deed(rebuilt(program)), deed(program))

    def test_the_looker_and_the_walk(self):
        made_up, others = Bounded(7), MadeUp(7)
        for again in range(150):
            program = read(made_up.program()[1])
            text = endless(program)
            if text is not None:
                with self.assertRaises(Endless):
                    walk(program, text)
            else:
                walk(program, others.text())
            told = needed(program)
            if told[0] == "most":
                blade = Blade(program)
                try:
                    for row in others.rows():
                        blade.feed(row + "\n")
                        self.assertLessEqual(blade.kept(), told[1])
                except Endless:
                    self.assertIsNotNone(text)


if __name__ == "__main__":
    unittest.main()
