"""Programs looked through ahead, points 2, 3 and 33 to 35."""

import copy
import itertools
import random
import unittest

from helpers import plain, text_of
from madeup import Bounded
from oracle import PlainBlade, plain_walk
from rowblade.blade import Blade
from rowblade.errors import Endless
from rowblade.kinds import kinds
from rowblade.looker import endless, needed
from rowblade.reading import read
from rowblade.showing import shown
from rowblade.walk import walk


def rows_in(text):
    """The rows of a text that is made of whole rows."""
    return text.split("\n")[:-1]


def kept_behind_each(program, rows):
    """What a blade keeps behind each row, up to a refusal."""
    blade, told = Blade(program), [0]
    try:
        for row in rows:
            blade.feed(row + "\n")
            told.append(blade.kept())
    except Endless:
        pass
    return told


def is_refused(program, rows):
    try:
        walk(program, text_of(rows))
    except Endless:
        return True
    return False


def short_texts(rows, most):
    for many in range(most + 1):
        yield from itertools.product(rows, repeat=many)


def long_texts(rows, many, length):
    chance = random.Random(33)
    for again in range(many):
        told = []
        while len(told) < length:
            told += [chance.choice(rows)] * chance.choice([1, 1, 1, 2, 5])
        yield told


class NeededTest(unittest.TestCase):
    def most(self, lines, most, fewest, rows=("", "a", "b", "ab"), short=4):
        """So many rows are kept at most, and the fewest rows of a text at which they are."""
        with self.subTest(lines=lines):
            program = read(text_of(lines))
            told = needed(program)
            self.assertIs(type(told), tuple)
            self.assertEqual(told[:2], ("most", most))
            self.assertIs(type(told[1]), int)
            text = told[2]
            self.assertIs(type(text), str)
            self.assertTrue(text == "" or text.endswith("\n"))
            self.assertEqual(len(rows_in(text)), fewest)
            kept = kept_behind_each(program, rows_in(text))
            self.assertEqual((len(kept), kept[-1]), (fewest + 1, most))
            for one in short_texts(rows, short):
                kept = kept_behind_each(program, one)
                self.assertLessEqual(max(kept), most)
                self.assertNotIn(most, kept[:fewest])
            for one in long_texts(rows, 30, 40):
                self.assertLessEqual(max(kept_behind_each(program, one)), most)

    def more(self, lines):
        with self.subTest(lines=lines):
            program = read(text_of(lines))
            told = needed(program)
            self.assertEqual((type(told), len(told), told[0]), (tuple, 3, "more"))
            head, ring = told[1:]
            self.assertEqual((type(head), type(ring)), (str, str))
            self.assertTrue(head == "" or head.endswith("\n"))
            self.assertTrue(ring.endswith("\n"))
            for times in (0, 1, 2, 3, 7, 20):
                blade = Blade(program)
                for row in rows_in(head + ring * times):
                    blade.feed(row + "\n")
                self.assertGreaterEqual(blade.kept(), times)

    def test_nothing_kept(self):
        for lines in (
            [], ["print"], ["drop"], ["mark m", "go m"], ["bring x"], ["/a/: say \"x\"", "add 1 2", "end: tell"],
            ["from /a/ to row 3: drop", "row 9: done"], ["pile x", "bring x"], ["done", "pile x"],
            ["drop", "join 3", "pile x"],
        ):
            self.most(lines, 0, 0)
            self.assertEqual(needed(read(text_of(lines))), ("most", 0, ""))

    def test_rows_seen_ahead(self):
        self.most(["last: drop"], 1, 1)
        self.most(["not last: drop"], 1, 1)
        self.most(["soon 1 /a/: drop"], 1, 1)
        self.most(["soon 2 /a/: drop"], 2, 2)
        self.most(["soon 2 /a/: drop", "not last: print"], 2, 2)

    def test_joins(self):
        self.most(["join 2"], 1, 1)
        self.most(["join 3"], 1, 1)
        self.most(["join 3", "join 3"], 2, 2)
        self.most(["join 2", "join 3"], 2, 2)
        self.most(["join 3", "join 2"], 1, 1)
        self.most(["mark m", "join 3", "go m"], 2, 2)
        self.most(["/a/: join 2"], 1, 1)
        self.most(["/a/: join 3", "not /b/: drop", "join 3"], 2, 2)
        self.most(["/a/: join 3", "/a/: drop", "/b/: join 3"], 2, 2)
        self.most(["/a/: join 3", "/a/: drop", "/a/: join 3"], 1, 1)

    def test_joins_and_rows_seen_ahead(self):
        self.most(["last: drop", "join 2"], 2, 2)
        self.most(["soon 2 /a/: join 3", "not soon 1 /b/: join 3"], 4, 4)

    def test_shelves_with_a_number(self):
        for most in (1, 2, 3):
            self.most([f"pile x {most}"], most, most)
            self.most([f"/a/: pile x {most}", "/b/: bring x"], most, most)
        self.most(["pile x 2", "pile y 3"], 5, 3)
        self.most(["/a/: pile x 2", "not /a/: pile y 3"], 5, 5, short=5)
        self.most(["pile x 2", "pile x 3"], 3, 2)
        self.most(["pile x 3", "pile x 2"], 2, 1)
        self.most(["/a/: pile x 3", "/b/: pile x 1"], 3, 3)
        self.most(["/a/: pile x", "bring x", "/b/: pile x 2"], 1, 1)

    def test_shelves_with_things_of_several_rows(self):
        self.most(["join 2", "pile x 1"], 3, 3)
        self.most(["join 2", "pile x 2"], 5, 5, short=5)
        self.most(["/a/: join 2", "pile x 2"], 5, 5, short=5)
        self.most(["pile x 1", "join 2"], 2, 1)
        self.most(["pile x 2", "join 2", "pile x 2"], 4, 3)
        self.most(["/a/: join 3", "/a/: join 3", "/b/: pile x 2"], 8, 8, rows=("", "a", "b", "ab"), short=4)

    def test_a_pile_without_a_number_and_no_bring(self):
        self.more(["pile x"])
        self.more(["pile x", "end: bring x"])
        self.more(["pile x", "bring y"])
        self.more(["/a/: pile x"])
        self.more(["not /a/: pile x", "drop"])
        self.more(["row 9: done", "pile x", "join 3"])
        self.more(["/a/: pile x", "last: drop"])
        self.more(["not row 3: pile x"])
        self.more(["last: bring x", "/a/: pile x"])
        self.more(["soon 1 /a/: pile x"])
        self.more(["pile x 1", "/b/: pile y"])
        self.more(["row 9: pile x", "not from row 1 to row 9: pile x"])

    def test_a_pile_that_never_comes(self):
        self.most(["drop", "pile x"], 0, 0)
        self.most(["last: pile x"], 1, 1)
        self.most(["/a/: drop", "/a/: pile x"], 0, 0)
        self.most(["not /a/: drop", "not /b/: drop", "not /ab/: done", "/^$/: pile x"], 0, 0)

    def test_patterns_that_no_row_has_together(self):
        self.most(["not /^a$/: drop", "/b/: pile x"], 0, 0)
        self.most(["not /^$/: drop", "/./: pile x"], 0, 0)
        self.more(["not /^a/: drop", "/b$/: pile x"])

    def test_a_pile_at_some_rows_by_their_numbers(self):
        self.most(["row 2: pile x"], 1, 2)
        self.most(["row 9: pile x"], 1, 9, rows=("", "a"))
        self.most(["from row 2 to row 4: pile x"], 3, 4)
        self.most(["from row 1 to row 9: pile x"], 9, 9, rows=("a",), short=12)
        self.most(["row 1: pile x", "row 2: pile x", "row 3: bring x"], 2, 2)
        self.most(["from /a/ to row 3: pile x", "not from row 1 to row 3: bring x"], 3, 3)

    def test_a_stretch(self):
        self.more(["from /a/ to /b/: pile x"])
        self.more(["from /a/ to row 3: pile x"])
        self.most(["from /a/ to /b/: pile x", "not from /a/ to /b/: bring x", "/a/: bring x", "not /b/: bring x"], 1, 2)
        self.more(["from row 1 to /b/: pile x"])
        self.most(["not from row 2 to /a/: pile x 3", "from row 2 to /a/: bring x"], 3, 6)

    def test_a_pile_that_a_bring_empties(self):
        self.more(["pile x", "/b/: bring x"])
        self.more(["/a/: pile x", "/b/: bring x"])
        self.most(["/a/: pile x", "not /a/: bring x", "bring x"], 0, 0)
        self.most(["bring x", "pile x"], 1, 1)
        self.most(["pile x", "/a/: bring x", "not /a/: pile x 2"], 2, 1)
        self.most(["/a/: bring x", "pile x", "not /a/: bring x"], 1, 1)
        self.most(["join 2", "pile x", "join 3", "bring x"], 4, 2)

    def test_a_shelf_that_fills_only_at_rows_that_cannot_come_one_behind_the_other(self):
        # Each row that piles is followed by one that brings.
        self.most(["/a/: pile x", "soon 1 /a/: bring x", "not /a/: bring x"], 2, 2)
        self.most(["/b/: bring x", "soon 1 /b/: pile x", "not soon 1 /b/: bring x"], 2, 2, short=5)
        self.most(["/a/: bring x", "/b/: bring x", "soon 1 /a/: pile x", "not soon 1 /a/: bring x"], 2, 2)
        self.most(["/a/: bring x", "soon 2 /a/: pile x", "not soon 2 /a/: bring x"], 4, 4, short=5)
        self.most(["/a/: pile x", "/a/: join 2", "bring x"], 2, 1)
        self.most(["from /a/ to /^$/: bring x", "pile x", "not soon 1 /a/: bring x"], 2, 2)

    def test_a_go(self):
        self.most(["/a/: go m", "bring x", "done", "mark m", "pile x 2"], 2, 2)
        self.more(["go m", "bring x", "mark m", "pile x"])
        self.most(["pile x 2", "mark m", "/a/: go m"], 2, 2)
        self.more(["mark m", "pile x", "join 2", "go m"])
        self.most(["bring x", "mark m", "pile x", "join 3", "go m"], 6, 3)

    def test_what_is_kept_ahead_of_a_refusal_counts(self):
        self.most(["pile x", "row 3: go m", "done", "mark m", "go m"], 2, 2)
        self.most(["mark m", "row 3: go m", "pile x"], 2, 2)
        self.most(["mark m", "/a/: go m", "bring x", "pile x 3"], 1, 1)
        self.most(["mark m", "last: drop", "not last: go m"], 1, 1)
        self.most(["mark m", "row 2: go m", "pile x", "soon 2 /a/: drop"], 3, 3)

    def test_a_ring_that_is_never_refused(self):
        self.more(["mark m", "/b/: go m", "/a/: pile x"])
        self.more(["row 1: done", "mark m", "not /a/: go m", "soon 1 /b/: pile x"])
        self.most(["pile x", "mark m", "go m"], 0, 0)
        self.most(["pile x", "mark m", "soon 1 //: go m"], 1, 1)

    def test_a_row_taken_is_never_the_last_one(self):
        self.most(["last: pile x"], 1, 1)
        self.more(["not last: pile x"])
        self.most(["not last: bring x", "pile x"], 2, 2)
        self.most(["pile x 2", "not last: bring x", "last: pile x"], 1, 1)

    def test_two_shelves(self):
        self.more(["/a/: pile x", "/a/: bring y", "not /a/: pile y", "not /a/: bring x"])
        self.most(["/a/: bring x", "not /a/: bring y", "pile x 2", "pile y 3"], 4, 3)
        self.most(["/a/: bring x", "/b/: bring y", "not /a/: pile x 3", "not /b/: pile y 3"], 6, 3)
        self.most(["/a/: bring x", "not /a/: bring y", "/a/: pile y 2", "not /a/: pile x 2"], 2, 2)

    def test_not(self):
        self.most(["not row 2: bring x", "pile x"], 2, 2)
        self.most(["not from row 2 to row 3: bring x", "pile x"], 3, 3)
        self.most(["not soon 1 /a/: bring x", "not /a/: bring x", "/a/: pile x 3"], 4, 4)
        self.most(["not /a/: drop", "not /b/: pile x 2"], 2, 2)


class EndlessTest(unittest.TestCase):
    def never(self, lines, rows=("", "a", "b", "ab")):
        with self.subTest(lines=lines):
            program = read(text_of(lines))
            self.assertIsNone(endless(program))
            for one in short_texts(rows, 4):
                self.assertFalse(is_refused(program, one))
            for one in long_texts(rows, 20, 15):
                self.assertFalse(is_refused(program, one))

    def ever(self, lines, fewest, rows=("", "a", "b", "ab"), short=4):
        with self.subTest(lines=lines):
            program = read(text_of(lines))
            told = endless(program)
            self.assertIs(type(told), str)
            self.assertTrue(told.endswith("\n"))
            self.assertEqual(len(rows_in(told)), fewest)
            self.assertTrue(is_refused(program, rows_in(told)))
            for one in short_texts(rows, min(short, fewest - 1)):
                self.assertFalse(is_refused(program, one))

    def test_no_go(self):
        self.never([])
        self.never(["mark m", "print"])
        self.never(["pile x", "join 3", "last: drop", "end: bring x"])

    def test_no_ring(self):
        self.never(["go m", "print", "mark m"])
        self.never(["mark m", "drop", "go m"])
        self.never(["mark m", "/a/: drop", "not /a/: done", "go m"])
        self.never(["go a", "mark b", "go c", "mark a", "go b", "mark c"])
        self.never(["mark m", "/^$/: go n", "done", "mark n", "/./: go m"])
        self.never(["mark m", "join 3", "go m"])
        self.never(["mark m", "not /^a$/: drop", "/b/: go m"])

    def test_every_row(self):
        self.ever(["mark m", "go m"], 1)
        self.ever(["mark m", "print", "go m", "end: tell"], 1)

    def test_a_row_of_some_kind(self):
        self.ever(["mark m", "/a/: go m"], 1)
        self.ever(["mark m", "not /a/: go m"], 1)
        self.ever(["mark m", "/a/: drop", "/b/: go m"], 1)
        self.ever(["mark m", "/^a/: drop", "/ab/: go m"], 1)

    def test_a_row_number(self):
        self.ever(["mark m", "row 1: go m"], 1)
        self.ever(["mark m", "row 3: go m"], 3)
        self.ever(["mark m", "row 9: go m"], 9, rows=("", "a"), short=8)
        self.ever(["mark m", "not row 1: go m"], 2)
        self.ever(["join 2", "mark m", "row 3: go m", "row 4: go m"], 4)

    def test_a_number_that_no_turn_meets(self):
        self.never(["join 2", "mark m", "row 3: go m"])
        self.never(["row 2: drop", "mark m", "row 2: go m"])

    def test_a_stretch(self):
        self.ever(["mark m", "from /a/ to /b/: go m"], 1)
        self.ever(["/a/: drop", "mark m", "from /a/ to /b/: go m"], 2)
        self.ever(["not from /a/ to /b/: drop", "not /b/: drop", "/a/: drop", "mark m", "go m"], 2)
        self.ever(["mark m", "from row 3 to row 4: go m"], 3)
        self.ever(["/a/: drop", "/b/: drop", "mark m", "from /a/ to row 2: go m", "done"], 2)
        self.never(["/a/: drop", "mark m", "from /a/ to row 1: go m"])
        self.ever(["not from row 2 to /a/: drop", "not from /b/ to row 5: drop", "mark m", "go m"], 2)

    def test_the_last_row(self):
        self.ever(["mark m", "last: go m"], 1)
        self.ever(["row 1: drop", "mark m", "last: go m"], 2)
        self.ever(["mark m", "last: drop", "not last: go m"], 2)
        self.ever(["mark m", "/a/: drop", "last: drop", "row 2: go m"], 3)

    def test_rows_soon(self):
        self.ever(["mark m", "soon 1 /a/: go m"], 2)
        self.ever(["mark m", "soon 2 /a/: go m"], 2)
        self.ever(["mark m", "soon 1 /a/: drop", "soon 2 /a/: go m"], 3)
        self.ever(["mark m", "not soon 1 /a/: go m"], 1)
        self.ever(["mark m", "not soon 1 /a/: drop", "not soon 2 /b/: drop", "/a/: drop", "go m"], 2)
        self.never(["mark m", "not soon 1 /a/: drop", "last: go m"])
        self.ever(["mark m", "not soon 1 /a/: drop", "not /b/: drop", "row 2: go m"], 3)

    def test_a_join(self):
        self.ever(["join 2", "mark m", "go m"], 2)
        self.ever(["join 3", "join 3", "mark m", "go m"], 3)
        self.ever(["/a/: join 2", "/b/: join 3", "mark m", "not row 2: done", "/b/: go m"], 2)
        self.ever(["mark m", "/a/: join 3", "/b/: go m"], 1)
        self.ever(["mark m", "join 3", "mark n", "last: go n"], 2)

    def test_the_finish(self):
        self.ever(["join 2", "not last: drop", "mark m", "go m"], 2)
        self.ever(["soon 2 /a/: drop", "not last: done", "row 1: drop", "mark m", "go m"], 2)
        self.never(["join 2", "drop", "mark m", "go m"])

    def test_patterns_that_no_row_has_together(self):
        self.never(["mark m", "not /^a$/: drop", "/b/: go m"])
        self.never(["mark m", "not /^$/: done", "/./: go m"])

    def test_swaps_change_no_truth(self):
        self.ever(["mark m", "swap /a/ \"b\"", "/a/: go m"], 1)
        self.never(["not /a/: drop", "mark m", "swap /a/ \"b\"", "/^b$/: go m", "drop"], rows=("", "a", "ca"))


class BoundsTest(unittest.TestCase):
    """Programs at the bounds of point 35."""

    def check(self, lines):
        program = read(text_of(lines))
        self.assertLessEqual(len(lines), 12)
        patterns = [cond.pattern for cond in self.conds(program) if hasattr(cond, "pattern")]
        rows = [row for truths, row in kinds([one for at, one in enumerate(patterns) if one not in patterns[:at]])]
        told = needed(program)
        if told[0] == "most":
            fewest = len(rows_in(told[2]))
            self.assertEqual(kept_behind_each(program, rows_in(told[2]))[fewest], told[1])
            for one in itertools.chain(short_texts(rows, 3), long_texts(rows, 150, 40)):
                kept = kept_behind_each(program, one)
                self.assertLessEqual(max(kept), told[1])
                self.assertNotIn(told[1], kept[:fewest])
        else:
            for times in range(8):
                kept = kept_behind_each(program, rows_in(told[1] + told[2] * times))
                self.assertEqual(len(kept), 1 + len(rows_in(told[1] + told[2] * times)))
                self.assertGreaterEqual(kept[-1], times)
        text = endless(program)
        if text is not None:
            self.assertTrue(is_refused(program, rows_in(text)))
        for one in itertools.chain(short_texts(rows, 3), long_texts(rows, 100, 30)):
            if text is None or len(one) < len(rows_in(text)):
                self.assertFalse(is_refused(program, one))
        return told[0], told[1] if told[0] == "most" else None, text is not None

    def conds(self, program):
        for line in program.lines:
            cond = getattr(line.cond, "inner", line.cond)
            yield from [cond.first, cond.second] if hasattr(cond, "first") else [cond]

    def test_three_patterns_of_two_items(self):
        self.assertEqual(self.check([
            "mark m", "from /ab?/ to /b/: pile x 3", "from /^c/ to row 9: pile y 3", "soon 2 /ab?/: join 3",
            "soon 1 /b/: print", "not soon 2 /^c/: join 3", "row 5: go m", "/ab?/: bring x", "/b/: bring y", "row 9: drop",
            "soon 1 /^c/: done", "end: bring x",
        ]), ("most", 14, True))

    def test_two_patterns_of_four_items(self):
        self.assertEqual(self.check([
            "soon 2 /a+b?c*d$/: pile x 3", "not soon 2 /^[ab]*c.d?/: join 3", "soon 1 /a+b?c*d$/: pile y 3",
            "/^[ab]*c.d?/: join 3", "from /a+b?c*d$/ to row 9: drop", "from row 9 to /^[ab]*c.d?/: done",
            "not /a+b?c*d$/: bring x", "not last: bring y", "mark m", "last: done", "row 8: go n", "mark n",
        ])[0], "most")

    def test_shelves_that_no_number_bounds(self):
        self.assertEqual(self.check([
            "from row 1 to row 9: pile x", "soon 2 /a/: bring x", "not soon 2 /b/: join 3", "from /a/ to /b/: bring x",
            "/c/: join 3", "not /a/: bring y", "soon 1 /c/: pile y 3", "/b/: drop", "last: bring x", "mark m", "end: tell",
            "end: bring x",
        ])[0], "most")
        self.assertEqual(self.check([
            "row 9: bring x", "/a/: pile x", "soon 2 /b/: join 3", "from /a/ to /b/: drop", "not soon 1 /c/: join 3",
            "from /c/ to row 9: done", "last: bring x", "/c/: pile y", "not /b/: bring y", "mark m", "row 7: bring x",
            "end: bring y",
        ])[0], "more")


class ManyProgramsTest(unittest.TestCase):
    """Programs made up by chance, held against all stands that a plain blade comes to."""

    def fullest(self, lines, rows, limit):
        """The most rows kept, and behind how few rows fed; None where there are more stands than the limit."""
        level, seen, told = [()], {}, (0, 0)
        while level and len(seen) <= limit:
            further = []
            for fed in level:
                for row in rows:
                    blade = PlainBlade(lines, fed + (row,))
                    stand = blade.stand(5) + blade.things()
                    if blade.refused is None and stand not in seen:
                        seen[stand] = True
                        further.append(fed + (row,))
                        told = max(told, (blade.kept(), -len(fed) - 1))
            level = further
        return None if level else (told[0], -told[1])

    def fewest_refused(self, lines, rows):
        """How many rows a text has at least over which the walk is refused, or None."""
        level, seen = [()], {}
        while level:
            texts = [fed + (row,) for fed in level for row in rows]
            if any(plain_walk(lines, text_of(text))[0] == "endless" for text in texts):
                return len(texts[0])
            level = []
            for text in texts:
                stand = PlainBlade(lines, text).stand(5)
                if stand not in seen:
                    seen[stand] = True
                    level.append(text)
        return None

    def check_more(self, lines, told):
        for times in (0, 1, 2, 5):
            blade = PlainBlade(lines, rows_in(told[1] + told[2] * times))
            self.assertIsNone(blade.refused, lines)
            self.assertGreaterEqual(blade.kept(), times, lines)

    def test_needed(self):
        made_up = Bounded(33)
        tried = {"most": 0, "more": 0}
        for again in range(200):
            patterns, lines = made_up.program()
            rows = [row for truths, row in kinds(patterns)]
            told = needed(read(lines))
            if told[0] == "more":
                self.check_more(lines, told)
                tried["more"] += 1
                continue
            fullest = self.fullest(lines, rows, 100)
            if fullest is not None:
                self.assertEqual((told[1], len(rows_in(told[2]))), fullest, lines)
                self.assertEqual(PlainBlade(lines, rows_in(told[2])).kept(), told[1], lines)
                tried["most"] += told[1] > 1
        self.assertGreater(min(tried.values()), 20, tried)

    def test_endless(self):
        made_up = Bounded(34)
        tried = {}
        for again in range(200):
            patterns, lines = made_up.program()
            rows = [row for truths, row in kinds(patterns)]
            told = endless(read(lines))
            fewest = None if told is None else len(rows_in(told))
            self.assertEqual(fewest, self.fewest_refused(lines, rows), lines)
            if told is not None:
                self.assertEqual(plain_walk(lines, told)[0], "endless", lines)
            tried[fewest] = tried.get(fewest, 0) + 1
        self.assertGreater(len(tried), 3, tried)


class StayTest(unittest.TestCase):
    def test_the_program_stays_and_the_same_is_told(self):
        for lines in (
            ["mark m", "from /a/ to row 3: pile x 2", "last: join 2", "soon 2 /b/: print", "/b/: go m", "end: bring x"],
            ["/a/: pile x", "/b/: bring x"], ["pile x"], [],
        ):
            program = read(text_of(lines))
            before = copy.deepcopy([plain(line) for line in program.lines])
            told = [(needed(program), endless(program)) for again in range(2)]
            told.append((needed(read(text_of(lines))), endless(read(text_of(lines)))))
            self.assertEqual(told[0], told[1])
            self.assertEqual(told[0], told[2])
            self.assertEqual([plain(line) for line in program.lines], before)
            self.assertEqual(shown(program), text_of(lines))

    def test_by_their_arguments(self):
        self.assertEqual(needed(program=read("")), ("most", 0, ""))
        self.assertIsNone(endless(program=read("")))


if __name__ == "__main__":
    unittest.main()
