"""Walks that would go on for ever, point 28."""

import unittest

from helpers import given, text_of
from rowblade.errors import BladeError, Endless
from rowblade.reading import read
from rowblade.walk import run, walk


class EndlessTest(unittest.TestCase):
    def refused(self, lines, rows, row, line):
        for told in (walk, run):
            for text in (text_of(rows), text_of(rows)[:-1]):
                with self.subTest(lines=lines, text=text, told=told.__name__):
                    with self.assertRaises(BladeError) as caught:
                        told(read(text_of(lines)), text)
                    error = caught.exception
                    self.assertIs(type(error), Endless)
                    self.assertIsInstance(error, ValueError)
                    self.assertEqual((error.row, error.line), (row, line))
                    self.assertEqual((type(error.row), type(error.line)), (int, int))

    def test_a_go_to_a_mark_ahead_of_it(self):
        self.refused(["mark m", "go m"], ["a"], 1, 2)
        self.refused(["mark m", "print", "go m"], ["a"], 1, 2)
        self.refused(["say \"x\"", "mark m", "mark n", "go m"], ["a"], 1, 3)
        self.refused(["mark m", "/a/: go m"], ["b", "b", "a", "b"], 3, 2)

    def test_the_first_line_that_is_met_again(self):
        self.refused(["go n", "mark m", "say \"x\"", "mark n", "go m"], ["a"], 1, 5)
        self.refused(["go n", "mark m", "say \"x\"", "mark n", "print", "go m"], ["a"], 1, 5)
        self.refused(["mark m", "print", "mark n", "say \"x\"", "go n"], ["a"], 1, 4)

    def test_a_line_whose_condition_is_not_true(self):
        self.refused(["mark m", "/b/: drop", "go m"], ["a"], 1, 2)
        self.refused(["mark m", "/b/: drop", "go m"], ["b", "a"], 2, 2)
        self.refused(["mark m", "last: drop", "not last: go m"], ["a", "b"], 1, 2)

    def test_lines_with_end_are_not_met(self):
        self.refused(["mark m", "end: tell", "print", "go m"], ["a"], 1, 3)
        self.refused(["end: say \"x\"", "mark m", "end: tell", "go m"], ["a"], 1, 4)

    def test_a_ring_that_a_join_breaks_as_long_as_there_are_rows(self):
        lines = ["mark m", "/a/: join 9", "/b/: go m"]
        self.refused(lines, ["b"], 1, 2)
        # The join has taken the row, so the line behind it is the first one that is met again.
        self.refused(lines, ["a", "b"], 2, 3)
        self.refused(lines, ["c", "a", "b", "c"], 3, 3)
        self.assertEqual(given(lines, ["a", "a", "a", "c"]), ["a a", "a c"])

    def test_a_join_ends_each_turn_at_last(self):
        for rows in (list("a"), list("ab"), list("abcdefghijklm")):
            told = given(["mark m", "join 9", "go m"], rows)
            self.assertEqual(" ".join(told), " ".join(rows))

    def test_the_row_is_the_one_taken_last(self):
        self.refused(["join 3", "mark m", "print", "go m"], list("abc"), 2, 3)
        self.refused(["mark m", "not row 4: join 9", "not row 2: go m"], list("abcde"), 4, 3)

    def test_nothing_is_refused_where_a_line_is_met_again_in_another_turn(self):
        self.assertEqual(given(["go m", "mark m", "print"], list("ab")), list("aabb"))

    def test_nothing_is_refused_behind_a_row_taken(self):
        self.assertEqual(given(["mark m", "print", "join 3", "row 2: go m"], list("abc")), ["a", "a b", "a b c"])

    def test_nothing_is_refused_where_no_line_is_met_again(self):
        lines = ["go a", "mark b", "go c", "mark a", "go b", "mark c"]
        self.assertEqual(given(lines, list("xy")), list("xy"))

    def test_a_ring_that_no_row_comes_to(self):
        self.assertEqual(given(["/z/: go m", "done", "mark m", "go m"], list("ab")), list("ab"))
        self.assertEqual(given(["mark m", "go m", "end: say \"x\""], []), ["x"])

    def test_a_refusal_leaves_nothing_behind(self):
        program = read("mark m\npile s\n/a/: go m\nend: bring s\n")
        with self.assertRaises(Endless):
            walk(program, "b\na\n")
        self.assertEqual(walk(program, "b\n")[0], ["b", "b"])


if __name__ == "__main__":
    unittest.main()
