"""Programs, texts and pieces made up by chance, the same ones each time."""

import random

from helpers import text_of
from rowblade.patterns import least_length, pattern


class MadeUp:
    PATTERNS = ["a", "b", "^a", "b$", "[ab]", "[^a]+", "a*b", "a?b+", ".", "a.b", " ", "[0123456789]+", "c"]
    MAY_BE_EMPTY = ["", "^$", ".*", "^b*$"]
    ROWS = ["a", "b", "ab", "ba", "", "a 1", "b 2", "a -3", "c", "aab", "abab", "a 05 b", " b  7 "]

    def __init__(self, seed):
        self.chance = random.Random(seed)

    def pick(self, things):
        return self.chance.choice(things)

    def number(self, most):
        return self.chance.randint(1, most)

    def pat(self):
        return "/" + self.pick(self.PATTERNS + self.MAY_BE_EMPTY) + "/"

    def edge(self):
        return self.pick([self.pat(), f"row {self.number(6)}"])

    def cond(self):
        kinds = [
            f"row {self.number(6)}", "last", self.pat(), self.pat(), f"soon {self.number(3)} {self.pat()}",
            f"from {self.edge()} to {self.edge()}",
        ]
        return self.pick(["", "", "not "]) + self.pick(kinds)

    def words(self, most):
        return "\"" + "".join(self.pick("abc 1/:x") for at in range(self.chance.randint(0, most))) + "\""

    def deed(self, names):
        text = self.pick(self.PATTERNS)
        kinds = [
            "drop", "print", "done", "say " + self.words(4), f"swap /{text}/ {self.words(4)}",
            f"swap every /{text}/ {self.words(least_length(pattern(text)))}", f"join {self.number(3) + 1}",
            f"pile {self.pick('xy')} {self.number(3)}", f"pile {self.pick('xy')}", f"bring {self.pick('xy')}",
            f"add {self.number(3)} {self.number(3)}", "add 1 2",
        ]
        return self.pick(kinds + ["go " + name for name in names])

    def program(self):
        names = self.chance.sample(["m", "n", "o"], self.chance.randint(0, 3))
        lines = ["mark " + name for name in names]
        for at in range(self.chance.randint(0, 9)):
            deed = self.deed(names)
            ends = "end: " + self.pick(["tell", "bring x", "bring y", "say \"e\""])
            lines.append(self.pick([f"{self.cond()}: {deed}"] * 7 + [deed, deed, ends]))
        self.chance.shuffle(lines)
        return text_of(lines)

    def rows(self, most=8):
        return [self.pick(self.ROWS) for at in range(self.chance.randint(0, most))]

    def text(self, most=8):
        return "\n".join(self.rows(most)) + self.pick(["", "\n"])

    def pieces(self, text):
        """The text cut anywhere, with pieces of no signs among the others."""
        told = []
        while text or self.chance.random() < 0.3:
            many = self.pick([0, 1, 1, 2, 3, 5, 8, 20])
            told.append(text[:many])
            text = text[many:]
        return told


class Bounded:
    """Programs within the bounds of point 35, that pile, bring and join a good deal."""

    PATTERNS = [
        ["a", "b"], ["^a", "b$"], ["a", "ab"], ["^$", "a"], ["a*b$", "[^a]b"], ["a", "[^a]"], ["a", "b", "c"],
        ["^a", "b", "a$"], ["a"], ["^$"], [""], ["^ab?c$", "a+b"], ["^a$", "^b$"], ["aa", "^$"],
    ]

    def __init__(self, seed):
        self.chance = random.Random(seed)

    def pick(self, things):
        return self.chance.choice(things)

    def pat(self):
        return "/" + self.pick(self.patterns) + "/"

    def row(self):
        return f"row {self.chance.randint(1, self.greatest)}"

    def cond(self):
        kinds = [self.pat()] * 4 + [self.row()]
        if self.seen >= 1:
            kinds += ["last", "soon 1 " + self.pat(), "soon 1 " + self.pat()]
        if self.seen == 2:
            kinds += ["soon 2 " + self.pat()] * 2
        if self.stretches < 2:
            kinds.append(f"from {self.pick([self.pat(), self.row()])} to {self.pick([self.pat(), self.row()])}")
        kind = self.pick(kinds)
        self.stretches += kind.startswith("from")
        return self.pick(["", "", "not "]) + kind

    def deed(self, names):
        kinds = ["drop", "done", "bring x", "bring y"] + ["go " + name for name in names] * 2
        if self.joins < 2:
            kinds += [f"join {self.pick([2, 3])}"] * 2
        if self.piles < 2:
            kinds += [f"pile {self.pick('xy')}{self.pick(['', '', ' 1', ' 2', ' 3'])}"] * 4
        kind = self.pick(kinds)
        self.joins += kind.startswith("join")
        self.piles += kind.startswith("pile")
        return kind

    def program(self):
        """The patterns of its conditions, and its text."""
        self.patterns = self.pick(self.PATTERNS)
        self.seen = self.pick([0, 0, 1, 2])
        self.greatest = self.pick([2, 3, 5])
        self.stretches = self.joins = self.piles = 0
        names = self.pick([[], ["m"], ["m", "n"]])
        lines = ["mark " + name for name in names]
        for at in range(self.chance.randint(1, 8)):
            deed = self.deed(names)
            lines.append(self.pick([deed] + [self.cond() + ": " + deed] * 3))
        self.chance.shuffle(lines)
        return [pattern(one) for one in self.patterns], text_of(lines)
