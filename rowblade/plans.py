"""The plan of a run: the turns that change something, to be done on a text and undone.

A plan is a tuple (before, behind, hunks): how many rows there are and whether they are ended, of the text and of what
is made of it; and for each change a tuple of its place, the old rows and the new ones.
"""

from rowblade.errors import NotThat
from rowblade.rows import cut, pasted
from rowblade.walk import walk


def plan(program, text):
    told = walk(program, text)
    rows = cut(text)[0]
    made = pasted(told[0], cut(text)[1])
    return (size_of(text), size_of(made), hunks_in(told[3], rows))


def size_of(text):
    told = cut(text)
    return (len(told[0]), told[1])


# The lines with end count as a turn that takes nothing, since the log goes on behind the last one with what they give.
def hunks_in(log, rows):
    hunks = []
    start = 0
    taken = 0
    given = []
    for entry in log + [("over",)]:
        if entry[0] == "take":
            taken = entry[1]
        elif entry[0] == "give":
            given.append(entry[1])
        elif entry[0] == "over":
            if given != rows[start:taken]:
                hunks.append((start, rows[start:taken], given))
            start = taken
            given = []
    return hunks


def fits(one, text):
    rows = cut(text)[0]
    if size_of(text) != one[0]:
        return False
    if any([rows[at:at + len(old)] != old for at, old, new in one[2]]):
        return False
    # Pasted as not ended, a last row that is empty would end the text all the same.
    return size_of(made_of_rows(one, rows)) == one[1]


def made_of_rows(one, rows):
    made = []
    passed = 0
    for at, old, new in one[2]:
        made.extend(rows[passed:at] + new)
        passed = at + len(old)
    return pasted(made + rows[passed:], one[1][1])


def done(one, text):
    if not fits(one, text):
        raise NotThat("the plan doesn't fit the text")
    return made_of_rows(one, cut(text)[0])


def back(one):
    hunks = []
    more = 0
    for at, old, new in one[2]:
        hunks.append((at + more, list(new), list(old)))
        more += len(new) - len(old)
    return (one[1], one[0], hunks)
