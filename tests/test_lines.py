"""What programs are made of: the classes of the interface and their fields."""

import unittest

from rowblade import lines
from rowblade.lines import Always, Cond, Deed, Drop, End, Like, Line, Mark, Not, Pile, Program, RowIs, Tell
from rowblade.patterns import pattern

A = pattern("a+")

# Each class with its arguments, by name and in order, and values for them.
CONDS = {
    "Always": {}, "RowIs": {"number": 7}, "Last": {}, "Like": {"pattern": A}, "Soon": {"many": 2, "pattern": A},
    "FromTo": {"first": RowIs(3), "second": Like(A)}, "Not": {"inner": RowIs(3)}, "End": {},
}
DEEDS = {
    "Mark": {"name": "x"}, "Drop": {}, "Print": {}, "Done": {}, "Say": {"words": "a b"},
    "Swap": {"pattern": A, "words": "b", "every": True}, "Join": {"most": 3}, "Pile": {"shelf": "s", "most": None},
    "Bring": {"shelf": "s"}, "Go": {"name": "x"}, "Add": {"first": 1, "second": 2}, "Tell": {},
}


class LinesTest(unittest.TestCase):
    def test_the_fields_are_called_as_the_arguments(self):
        for name, fields in {**CONDS, **DEEDS}.items():
            with self.subTest(name):
                made = [getattr(lines, name)(*fields.values()), getattr(lines, name)(**fields)]
                for one in made:
                    for field, value in fields.items():
                        self.assertEqual(getattr(one, field), value)

    def test_all_conds_stand_under_cond_and_all_deeds_under_deed(self):
        for names, above, other in ((CONDS, Cond, Deed), (DEEDS, Deed, Cond)):
            for name, fields in names.items():
                with self.subTest(name):
                    one = getattr(lines, name)(**fields)
                    self.assertIsInstance(one, above)
                    self.assertNotIsInstance(one, other)

    def test_no_cond_and_no_deed_stands_under_another(self):
        for names in (CONDS, DEEDS):
            for one in names:
                for other in names:
                    if one != other:
                        self.assertFalse(issubclass(getattr(lines, one), getattr(lines, other)), (one, other))

    def test_programs_and_lines(self):
        cond, deed = Not(Like(A)), Pile("s", 3)
        line = Line(cond, deed)
        self.assertIs(line.cond, cond)
        self.assertIs(line.deed, deed)
        self.assertIs(Line(cond=cond, deed=deed).deed, deed)
        self.assertEqual(Program([line]).lines, [line])
        self.assertEqual(Program(lines=[line]).lines, [line])
        self.assertIs(type(Program([]).lines), list)

    def test_what_was_handed_in_stays_and_may_be_changed(self):
        first, second = Line(Always(), Drop()), Line(End(), Tell())
        handed = [first, second]
        program = Program(handed)
        self.assertEqual(handed, [first, second])
        handed.clear()
        self.assertEqual(program.lines, [first, second])

    def test_one_program_changes_nothing_of_another(self):
        handed = [Line(Always(), Mark("x"))]
        one, other = Program(handed), Program(handed)
        one.lines.clear()
        self.assertEqual(len(other.lines), 1)
        self.assertEqual(len(handed), 1)


if __name__ == "__main__":
    unittest.main()
