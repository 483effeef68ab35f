"""What one row does to a blade: where it stands then, and how its piles and brings change what lies on the shelves.

Rows are told apart by their kinds alone, since no condition sees more of them. A kind is spoken of by its number.
"""

from rowblade.blade import ahead
from rowblade.errors import Endless
from rowblade.kinds import kinds
from rowblade.lines import Bring, FromTo, Like, Not, Pile, RowIs, Soon
from rowblade.loads import Loads
from rowblade.patterns import written
from rowblade.truths import TextRow, Truths
from rowblade.walker import Walker


# Where a blade stands between two feeds of whole rows, but for what lies on its shelves.
class Room:
    def __init__(self, taken, up, passed, hand_rows, waiting):
        # Beyond the greatest number that a condition asks for, rows aren't counted.
        self.taken = taken
        # The places of the lines from .. to whose stretch goes on.
        self.up = up
        # How many lines stand ahead of the one that is met next, and the rows of the hand that waits there, or 0.
        self.passed = passed
        self.hand_rows = hand_rows
        # The kinds of the rows that came and weren't taken.
        self.waiting = waiting

    def as_tuple(self):
        return (self.taken, self.up, self.passed, self.hand_rows, self.waiting)

    def rows_kept(self):
        return len(self.waiting) + self.hand_rows


class Steps:
    def __init__(self, program):
        self.program = program
        conds = conds_in(program)
        self.kinds = kinds(unlike([cond.pattern for cond in conds if isinstance(cond, (Like, Soon))]))
        self.alike = alike_when_taken(self.kinds, [cond.pattern for cond in conds if isinstance(cond, Like)])
        self.seen = ahead(program)
        self.greatest = max([cond.number for cond in conds if isinstance(cond, RowIs)], default=0)
        self.rows = [rows_of_kinds(self.kinds, taken + 1) for taken in range(self.greatest + 1)]
        self.loads = Loads(program.lines)
        # What was found out before: tellings by what they are told of, turns by where and with which truths they go on.
        self.tellings = {}
        self.turns = {}

    def first_room(self):
        return Room(0, (), 0, 0, ())

    # The room behind one more row of this kind, and the move of the shelves; or None where it runs for ever.
    def behind_row(self, room, kind):
        waiting = room.waiting + (kind,)
        if len(waiting) > self.seen:
            return self.behind_take(room, waiting)
        there = Room(room.taken, room.up, room.passed, room.hand_rows, self.as_waiting(waiting))
        return (there, self.loads.move_of([], 0))

    def behind_take(self, room, waiting):
        telling = self.telling_of(room.taken, room.up, waiting)
        turn = self.turn_with(room.passed, room.hand_rows, telling[0])
        if turn is None:
            return None
        taken = min([room.taken + 1, self.greatest])
        return (Room(taken, telling[1], turn[0], turn[1], self.as_waiting(waiting[1:])), turn[2])

    # The next row to be taken is seen by no other one any more, so less of its kind is asked for.
    def as_waiting(self, waiting):
        if len(waiting) == 0:
            return waiting
        return (self.alike[waiting[0]],) + waiting[1:]

    # The truths of the first row that waits, and the stretches that go on behind it.
    def telling_of(self, taken, up, waiting):
        key = (taken, up, waiting)
        if key not in self.tellings:
            teller = Truths(self.program.lines)
            for place in up:
                teller.up[place] = True
            rows = [self.rows[taken][kind] for kind in waiting]
            truths = tuple(teller.told_of(rows[0], rows[1:]))
            self.tellings[key] = (truths, tuple(sorted([place for place in teller.up if teller.up[place]])))
        return self.tellings[key]

    # Behind a row with these truths: the lines passed, the rows of the hand, the move; or None.
    def turn_with(self, passed, hand_rows, truths):
        key = (passed, hand_rows, truths)
        if key not in self.turns:
            walker = Walker(self.program)
            walker.passed = passed
            walker.hand_rows = hand_rows
            try:
                # No condition asks what the hand is, so any text will do.
                walker.take_with("", truths)
                deeds = shelf_deeds_in(walker.log, self.program.lines)
                self.turns[key] = (walker.passed, walker.hand_rows, self.loads.move_of(deeds, hand_rows + 1))
            except Endless:
                self.turns[key] = None
        return self.turns[key]

    # At the finish all rows that wait are taken, with fewer and fewer behind them.
    def is_refused_at_finish(self, room):
        here = room
        while len(here.waiting) > 0:
            step = self.behind_take(here, here.waiting)
            if step is None:
                return True
            here = step[0]
        return False


# Each condition that tells something of a row by itself, those within others too.
def conds_in(program):
    conds = []
    for line in program.lines:
        cond = line.cond.inner if isinstance(line.cond, Not) else line.cond
        if isinstance(cond, FromTo):
            conds.extend([cond.first, cond.second])
        else:
            conds.append(cond)
    return conds


def unlike(patterns):
    firsts = {}
    for one in patterns:
        firsts.setdefault(written(one), one)
    return list(firsts.values())


# For each kind, the first one of which these patterns tell the same.
def alike_when_taken(kinds_of_rows, patterns):
    firsts = {}
    alike = []
    for kind, row in enumerate(rows_of_kinds(kinds_of_rows, 0)):
        truths = tuple([row.has(one) for one in patterns])
        alike.append(firsts.setdefault(truths, kind))
    return alike


def rows_of_kinds(kinds_of_rows, number):
    return [TextRow(row, number) for truths, row in kinds_of_rows]


def shelf_deeds_in(log, lines):
    met = [lines[entry[1] - 1].deed for entry in log if entry[0] == "meet" and entry[2]]
    return [deed for deed in met if isinstance(deed, (Pile, Bring))]
