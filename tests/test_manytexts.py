"""Several texts by their names, points 2 and 39."""

import copy
import unittest

from helpers import text_of
from madeup import MadeUp
from rowblade.errors import BladeError, Endless, NotThat
from rowblade.manytexts import done_all, plan_all
from rowblade.plans import back, plan
from rowblade.reading import read
from rowblade.walk import run

TEXTS = {"one": "a\nb\n", "two": "b", "three": "", "four": "c\n\nb\nb\n"}


class PlanAllTest(unittest.TestCase):
    def test_no_text(self):
        self.assertEqual(plan_all(read("drop"), {}), {})

    def test_one(self):
        self.assertEqual(plan_all(read("drop"), {"x": "a"}), {"x": ((1, False), (0, True), [(0, ["a"], [])])})

    def test_several(self):
        program = read("/b/: drop\nend: say \"x\"\n")
        plans = plan_all(program, TEXTS)
        self.assertIs(type(plans), dict)
        self.assertEqual(set(plans), set(TEXTS))
        for name, text in TEXTS.items():
            self.assertEqual(plans[name], plan(program, text))

    def test_endless_in_one_of_the_runs(self):
        program = read("mark m\n/c/: go m\n")
        for texts in (TEXTS, {"x": "c"}, {"x": "a\n", "y": "b\nc"}, {"x": "c\n", "y": "b\n"}):
            with self.assertRaises(BladeError) as caught:
                plan_all(program, texts)
            self.assertIs(type(caught.exception), Endless)

    def test_by_their_arguments(self):
        plans = plan_all(program=read("drop"), texts={"x": "a"})
        self.assertEqual(done_all(plans=plans, texts={"x": "a"}), {"x": ""})


class DoneAllTest(unittest.TestCase):
    PROGRAM = "/b/: drop\nend: say \"x\"\n"

    def refused(self, plans, texts):
        before = copy.deepcopy((plans, texts))
        with self.assertRaises(BladeError) as caught:
            done_all(plans, texts)
        self.assertIs(type(caught.exception), NotThat)
        self.assertEqual((plans, texts), before)

    def test_no_text(self):
        self.assertEqual(done_all({}, {}), {})

    def test_one(self):
        self.assertEqual(done_all(plan_all(read(self.PROGRAM), {"x": "a\nb"}), {"x": "a\nb"}), {"x": "a\nx"})

    def test_several(self):
        plans = plan_all(read(self.PROGRAM), TEXTS)
        made = done_all(plans, TEXTS)
        self.assertIs(type(made), dict)
        self.assertEqual(made, {"one": "a\nx\n", "two": "x", "three": "x\n", "four": "c\n\nx\n"})
        self.assertEqual(done_all({name: back(one) for name, one in plans.items()}, made), TEXTS)

    def test_names_in_another_order(self):
        plans = plan_all(read(self.PROGRAM), TEXTS)
        turned = dict(reversed(list(TEXTS.items())))
        self.assertEqual(done_all(plans, turned), done_all(plans, TEXTS))

    def test_other_texts_that_fit(self):
        plans = plan_all(read("/b/: drop"), {"x": "a\nb\n", "y": "b\na"})
        self.assertEqual(done_all(plans, {"x": "c\nb\n", "y": "b\nd"}), {"x": "c\n", "y": "d"})

    def test_a_name_in_the_texts_alone(self):
        plans = plan_all(read(self.PROGRAM), TEXTS)
        self.refused(plans, {**TEXTS, "more": ""})
        self.refused({}, {"x": "a"})

    def test_a_name_in_the_plans_alone(self):
        plans = plan_all(read(self.PROGRAM), TEXTS)
        for name in TEXTS:
            self.refused(plans, {other: text for other, text in TEXTS.items() if other != name})
        self.refused(plans, {})

    def test_another_name(self):
        plans = plan_all(read(self.PROGRAM), {"x": "a"})
        self.refused(plans, {"y": "a"})

    def test_one_text_that_does_not_fit(self):
        plans = plan_all(read(self.PROGRAM), TEXTS)
        for name in TEXTS:
            self.refused(plans, {**TEXTS, name: TEXTS[name] + "d\n"})
        # The plans of two texts the other way round.
        self.refused({**plans, "one": plans["four"], "four": plans["one"]}, TEXTS)

    def test_both_dicts_stay(self):
        texts = dict(TEXTS)
        plans = plan_all(read(self.PROGRAM), texts)
        self.assertEqual(list(texts.items()), list(TEXTS.items()))
        before = copy.deepcopy(plans)
        made = done_all(plans, texts)
        self.assertEqual((plans, texts), (before, TEXTS))
        made["one"] = "z"
        made.clear()
        self.assertEqual((plans, texts), (before, TEXTS))
        self.assertEqual(done_all(plans, texts), done_all(before, TEXTS))

    def test_plans_told_may_be_changed(self):
        program = read(self.PROGRAM)
        plans = plan_all(program, TEXTS)
        before = copy.deepcopy(plans)
        plans["one"][2].clear()
        plans.clear()
        self.assertEqual(plan_all(program, TEXTS), before)

    def test_many_made_up(self):
        made_up = MadeUp(39)
        for again in range(300):
            program = read(made_up.program())
            texts = {name: made_up.text() for name in ["a", "b", "c"][:made_up.chance.randint(0, 3)]}
            try:
                made = {name: run(program, text) for name, text in texts.items()}
            except Endless:
                with self.assertRaises(Endless):
                    plan_all(program, texts)
                continue
            self.assertEqual(done_all(plan_all(program, texts), texts), made)


if __name__ == "__main__":
    unittest.main()
