"""Two programs woven into one that does what they do one behind the other."""

from rowblade.errors import NotWoven
from rowblade.lines import Always, Drop, End, Join, Like, Not
from rowblade.reading import MOST_LINES, read
from rowblade.showing import shown


# Read from its text, so that the woven program shares nothing with the two.
def woven(first, second):
    if len(first.lines) + len(second.lines) > MOST_LINES:
        raise NotWoven("there are too many lines together")
    if not all([isinstance(line.deed, Drop) for line in first.lines]):
        raise NotWoven("the first program does more than drop")
    if any([isinstance(line.deed, Join) for line in second.lines]):
        raise NotWoven("the second program joins")
    if not all([sees_the_row_alone(line.cond) for line in second.lines]):
        raise NotWoven("the second program sees more than the row")
    return read(shown(first) + shown(second))


# Rows that the first program drops are there for any other condition of the woven one, and were not for the second.
def sees_the_row_alone(cond):
    if isinstance(cond, Not):
        return isinstance(cond.inner, Like)
    return isinstance(cond, (Always, Like, End))
