"""The truths of a program's lines, told of each row as it is taken."""

from rowblade.lines import FromTo, Last, Like, Not, RowIs, Soon
from rowblade.patterns import written
from rowblade.stretches import found


# A row of the text as it came, with its number from 1.
class TextRow:
    def __init__(self, text, number):
        self.text = text
        self.number = number
        self.known = {}

    # Several lines may ask for the same pattern, and soon asks for it ahead, so it is looked for once.
    def has(self, one):
        name = written(one)
        if name not in self.known:
            self.known[name] = found(one, self.text)
        return self.known[name]


def text_rows(rows):
    return [TextRow(row, number) for number, row in enumerate(rows, start=1)]


class Truths:
    def __init__(self, lines):
        self.conds = [line.cond for line in lines]
        # The places of those lines from .. to whose stretch goes on.
        self.up = {}

    # Of the row taken now, with the rows of the text behind it; none of these tells that it is the last one.
    def told_of(self, row, behind):
        truths = []
        for place, cond in enumerate(self.conds):
            truths.append(self.truth(place, cond, row, behind))
        return truths

    def truth(self, place, cond, row, behind):
        if isinstance(cond, Not):
            return not self.truth(place, cond.inner, row, behind)
        if isinstance(cond, FromTo):
            return self.truth_of_stretch(place, cond, row)
        if isinstance(cond, Last):
            return len(behind) == 0
        if isinstance(cond, Soon):
            return any([later.has(cond.pattern) for later in behind[:cond.many]])
        return holds(cond, row)

    def truth_of_stretch(self, place, cond, row):
        if self.up.get(place, False):
            self.up[place] = not holds(cond.second, row)
            return True
        if not holds(cond.first, row):
            return False
        self.up[place] = not is_row_up_to(cond.second, row.number)
        return True


def holds(cond, row):
    if isinstance(cond, RowIs):
        return cond.number == row.number
    if isinstance(cond, Like):
        return row.has(cond.pattern)
    return True


def is_row_up_to(cond, number):
    return isinstance(cond, RowIs) and cond.number <= number
