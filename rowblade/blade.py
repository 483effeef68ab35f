"""A blade: a text comes in pieces, and each row is taken as soon as the rows that must be seen behind it have come."""

from rowblade.errors import Finished
from rowblade.lines import Last, Not, Soon
from rowblade.truths import TextRow
from rowblade.walker import Walker


def ahead(program):
    return max([rows_seen_by(line.cond) for line in program.lines], default=0)


def rows_seen_by(cond):
    if isinstance(cond, Not):
        return rows_seen_by(cond.inner)
    if isinstance(cond, Last):
        return 1
    if isinstance(cond, Soon):
        return cond.many
    return 0


class Blade:
    def __init__(self, program):
        self.walker = Walker(program)
        self.seen = ahead(program)
        self.came = 0
        # The whole rows that came and weren't taken, and the signs behind the last line feed.
        self.waiting = []
        self.rest = ""
        self.finished = False

    def feed(self, piece):
        self.refuse_once_finished()
        parts = (self.rest + piece).split("\n")
        self.rest = parts[-1]
        for part in parts[:-1]:
            self.come(part)
        self.take_all_but(self.seen)
        return self.walker.hand_over()

    def finish(self):
        self.refuse_once_finished()
        self.finished = True
        if self.rest != "":
            self.come(self.rest)
        self.take_all_but(0)
        self.walker.finish()
        return self.walker.hand_over()

    def refuse_once_finished(self):
        if self.finished:
            raise Finished("the blade is finished")

    def come(self, text):
        self.came += 1
        self.waiting.append(TextRow(text, self.came))

    def take_all_but(self, many):
        while len(self.waiting) > many:
            row = self.waiting.pop(0)
            self.walker.take(row, self.waiting[:self.seen])

    def boxes(self):
        return dict(self.walker.sums)

    def faults(self):
        return list(self.walker.noted)

    def kept(self):
        return len(self.waiting) + self.walker.hand_rows + self.walker.rows_on_shelves()
