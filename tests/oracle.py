"""Programs read and walked a second time, straight from the words of points 9 to 11 and 20 to 29, for the tests alone.

Slow and plain: lines stay texts, patterns are tried at each place by Python's own re.
"""

import re

from rowblade.errors import NoPattern
from rowblade.patterns import least_length, may_be_empty, pattern

NAME = "[a-z]{1,8}"
NUMBER = "[1-9][0-9]{0,2}"
PAT = "/[^/\n]*/"
WORDS = '"[ !#$&-~]{0,40}"'
EDGE = f"(?:row {NUMBER}|{PAT})"
COND = f"(?:not )?(?:row {NUMBER}|last|{PAT}|soon [1-3] {PAT}|from {EDGE} to {EDGE})"
SWAP = f"swap (?:every )?{PAT} {WORDS}"
DEED = (
    f"(?:drop|print|done|say {WORDS}|{SWAP}|join [2-9]|pile {NAME}(?: [1-9])?|bring {NAME}|go {NAME}"
    "|add [1-9] [1-9])"
)
LINE = re.compile(f"mark {NAME}|(?:({COND}): )?({DEED})|(end): (say {WORDS}|bring {NAME}|tell)")


def parted(row):
    """A line as (condition or None, deed), or None where the row is no line by its form."""
    match = LINE.fullmatch(row)
    if match is None:
        return None
    if row.startswith("mark "):
        return None, row
    return (match[1], match[2]) if match[3] is None else (match[3], match[4])


def is_line(row):
    parts = parted(row)
    if parts is None:
        return False
    try:
        found_patterns = [pattern(one[1:-1]) for part in parts if part for one in patterns_in(part)]
    except NoPattern:
        return False
    if not parts[1].startswith("swap "):
        return True
    one, words = found_patterns[-1], re.search(f"/ ({WORDS})$", row)[1][1:-1]
    fits = len(words) <= least_length(one) or not parts[1].startswith("swap every ")
    return fits and not may_be_empty(one)


def patterns_in(part):
    return re.findall(PAT, re.sub(f"(say|/) {WORDS}$", "\\1", part))


def as_re(text):
    """The pattern of this text as a text for re: of its signs only the backslash and the like mean another thing."""
    front, items, back = pattern(text)
    parts = []
    for signs, others, many in items:
        core = "." if signs == "" else "[" + "^" * others + "".join(map(re.escape, signs)) + "]"
        parts.append(core + ("" if many == "1" else many))
    return front, re.compile("".join(parts)), back


def first_stretch(text, row, start=0):
    front, one, back = as_re(text)
    for begin in range(start, len(row) + 1):
        for end in range(len(row), begin - 1, -1):
            if (not front or begin == 0) and (not back or end == len(row)) and one.fullmatch(row, begin, end):
                return begin, end
    return None


def swapped(hand, text, words, every):
    told, at = "", 0
    while (place := first_stretch(text, hand, at)) is not None:
        told += hand[at:place[0]] + words
        at = place[1]
        if not every:
            break
    return told + hand[at:]


class PlainWalk:
    def __init__(self, program, text):
        self.lines = [parted(row) for row in program.split("\n")[:-1]]
        self.rows = text.split("\n")
        if self.rows[-1] == "":
            self.rows.pop()
        self.flags = [False] * len(self.lines)
        self.taken = 0
        self.log, self.boxes, self.faults, self.shelves = [], {}, [], {}

    def told(self):
        while self.turn():
            pass
        if self.log[-1][0] == "endless":
            return self.log[-1]
        self.log.append(("end",))
        for cond, deed in self.lines:
            if cond == "end":
                self.give(deed)
        return [row[1] for row in self.log if row[0] == "give"], self.boxes, self.faults, self.log

    def want(self):
        self.log.append(("want", self.taken + 1))
        if self.taken == len(self.rows):
            self.log.append(("none", self.taken + 1))
            return False
        self.taken += 1
        self.log.append(("take", self.taken))
        self.truths = [self.truth(at, cond) for at, (cond, deed) in enumerate(self.lines)]
        self.met = []
        return True

    def holds(self, edge):
        if edge.startswith("row "):
            return self.taken == int(edge[4:])
        return first_stretch(edge[1:-1], self.rows[self.taken - 1]) is not None

    def truth(self, at, cond):
        if cond is None or cond == "end":
            return True
        if cond.startswith("not "):
            return not self.truth(at, cond[4:])
        if cond == "last":
            return self.taken == len(self.rows)
        if cond.startswith("soon "):
            behind = self.rows[self.taken:self.taken + int(cond[5])]
            return any(first_stretch(cond[8:-1], row) is not None for row in behind)
        if not cond.startswith("from "):
            return self.holds(cond)
        first, second = re.fullmatch(f"from ({EDGE}) to ({EDGE})", cond).groups()
        if self.flags[at]:
            self.flags[at] = not self.holds(second)
            return True
        if self.holds(first):
            self.flags[at] = not (second.startswith("row ") and int(second[4:]) <= self.taken)
            return True
        return False

    def turn(self):
        self.at = self.made = 0
        if not self.want():
            return False
        self.hand, self.made = self.rows[self.taken - 1], 1
        at = 0
        while at is not None:
            if at == len(self.lines):
                self.log.append(("give", self.hand))
                break
            cond, deed = self.lines[at]
            at += 1
            if cond == "end":
                continue
            if at in self.met:
                self.log.append(("endless", self.taken, at))
                return False
            self.met.append(at)
            self.log.append(("meet", at, self.truths[at - 1]))
            if self.truths[at - 1]:
                at = self.done(deed, at)
        self.log.append(("over",))
        return True

    def done(self, deed, at):
        """Where the lines go on, None where the turn is over."""
        word, _, rest = deed.partition(" ")
        if word in ("print", "done") or (word == "join" and self.made >= int(rest)):
            self.log.append(("give", self.hand))
        if word in ("drop", "done") or (word == "join" and self.made >= int(rest)):
            return None
        if word == "join":
            self.at = at
            if not self.want():
                self.log.append(("give", self.hand))
                return None
            self.hand, self.made = self.hand + " " + self.rows[self.taken - 1], self.made + 1
        elif word == "go":
            return self.lines.index((None, "mark " + rest)) + 1
        elif word == "swap":
            every, text, words = re.fullmatch(f"(every )?({PAT}) ({WORDS})", rest).groups()
            self.hand = swapped(self.hand, text[1:-1], words[1:-1], every is not None)
        elif word == "pile":
            name, _, most = rest.partition(" ")
            self.shelves.setdefault(name, []).append((self.hand, self.made))
            while most and len(self.shelves[name]) > int(most):
                self.shelves[name].pop(0)
        elif word == "add":
            self.add(*map(int, rest.split()), at)
        else:
            self.give(deed)
        return at

    def add(self, first, second, line):
        words = re.findall("[^ ]+", self.hand)
        if max(first, second) > len(words) or not re.fullmatch("-?[0-9]{1,60}", words[second - 1]):
            self.faults.append((self.taken, line))
        else:
            name = words[first - 1]
            self.boxes[name] = self.boxes.get(name, 0) + int(words[second - 1])

    def give(self, deed):
        word, _, rest = deed.partition(" ")
        if word == "say":
            self.log.append(("give", rest[1:-1]))
        elif word == "bring":
            self.log += [("give", hand) for hand, made in self.shelves.pop(rest, [])]
        elif word == "tell":
            self.log += [("give", f"{name} {self.boxes[name]}") for name in sorted(self.boxes)]


class Waits(Exception):
    """A row is wanted that can't be taken yet."""


class PlainBlade(PlainWalk):
    """The walk over the whole rows that came, as far as each row taken has as many behind it as must be seen."""

    def __init__(self, program, rows):
        super().__init__(program, "".join(row + "\n" for row in rows))
        self.may_take = len(rows) - plain_ahead(program)
        self.refused = None
        try:
            self.refused = self.told()
        except Waits:
            pass

    def want(self):
        if self.taken >= self.may_take:
            raise Waits
        return super().want()

    def given(self):
        return [row[1] for row in self.log if row[0] == "give"]

    def kept(self):
        return len(self.rows) - self.taken + self.made + sum(made for things in self.shelves.values() for hand, made in things)

    def stand(self, greatest):
        """All that later rows may do depends on it, where no condition asks for a row behind the greatest."""
        return repr((min(self.taken, greatest), self.flags, self.at, self.made, self.rows[self.taken:]))

    def things(self):
        return repr([(name, [made for hand, made in self.shelves[name]]) for name in sorted(self.shelves)])


def plain_ahead(program):
    """Point 31."""
    many = [0]
    for row in program.split("\n")[:-1]:
        cond = (parted(row)[0] or "").removeprefix("not ")
        many.append(1 if cond == "last" else int(cond[5]) if cond.startswith("soon ") else 0)
    return max(many)


def plain_walk(program, text):
    """(given, boxes, faults, log), or ("endless", row, line); the program is one that may be read."""
    return PlainWalk(program, text).told()
