"""Texts cut into rows and rows pasted, points 2 and 20."""

import itertools
import unittest

from rowblade.rows import cut, pasted

CUT = {
    "": ([], True),
    "\n": ([""], True),
    "a": (["a"], False),
    "a\n": (["a"], True),
    "a\nb": (["a", "b"], False),
    "a\nb\n": (["a", "b"], True),
    "\na": (["", "a"], False),
    "\na\n": (["", "a"], True),
    "a\n\n": (["a", ""], True),
    "\n\n": (["", ""], True),
    "\n\n\n": (["", "", ""], True),
    "a\n\nb": (["a", "", "b"], False),
    "\n\na\n\n\nb\n\n": (["", "", "a", "", "", "b", ""], True),
    " \n ": ([" ", " "], False),
    " a  \n": ([" a  "], True),
    "\\n": (["\\n"], False),
}


class CutTest(unittest.TestCase):
    def test_cut(self):
        for text, told in CUT.items():
            with self.subTest(repr(text)):
                self.assertEqual(cut(text), told)
                self.assertIs(type(cut(text)), tuple)
                self.assertIs(type(cut(text)[0]), list)
                self.assertIs(type(cut(text)[1]), bool)

    def test_the_list_told_may_be_changed(self):
        for text, told in CUT.items():
            cut(text)[0].append("more")
            self.assertEqual(cut(text), told)

    def test_cut_by_its_argument(self):
        self.assertEqual(cut(text="a\nb"), (["a", "b"], False))


class PastedTest(unittest.TestCase):
    def test_pasted(self):
        for rows, ended, told in [
            ([], True, ""), ([], False, ""),
            (["a"], True, "a\n"), (["a"], False, "a"),
            ([""], True, "\n"), ([""], False, "\n"),
            (["a", ""], True, "a\n\n"), (["a", ""], False, "a\n\n"),
            (["", "a"], True, "\na\n"), (["", "a"], False, "\na"),
            (["", ""], True, "\n\n"), (["", ""], False, "\n\n"),
            (["a", "b"], True, "a\nb\n"), (["a", "b"], False, "a\nb"),
            (["a", "", "b"], False, "a\n\nb"), ([" "], False, " "), ([" "], True, " \n"),
        ]:
            with self.subTest(rows=rows, ended=ended):
                self.assertEqual(pasted(rows, ended), told)
                self.assertEqual(pasted(rows=rows, ended=ended), told)
                if ended:
                    self.assertEqual(pasted(rows), told)

    def test_the_rows_handed_in_stay(self):
        for ended in (True, False):
            rows = ["a", "", "b", ""]
            pasted(rows, ended)
            self.assertEqual(rows, ["a", "", "b", ""])

    def test_cut_and_pasted_lead_back(self):
        for length in range(6):
            for signs in itertools.product("a \n", repeat=length):
                text = "".join(signs)
                rows, ended = cut(text)
                self.assertEqual(pasted(rows, ended), text)

    def test_pasted_and_cut_lead_back(self):
        for length in range(4):
            for rows in itertools.product(("", "a", " b"), repeat=length):
                for ended in (True, False):
                    told = cut(pasted(list(rows), ended))
                    self.assertEqual(told[0], list(rows))
                    self.assertIs(told[1], ended or not rows or rows[-1] == "")


if __name__ == "__main__":
    unittest.main()
