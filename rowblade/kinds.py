"""The kinds of rows by a list of patterns: which of them may be found in a row together.

A row is looked at sign by sign. What of a pattern has come up to there is a state: a tuple of places, each the number,
counted from 1, of the item that the last sign stood for, in one of the ways to share the signs out; 0 is ahead of all.
"""

from rowblade.patterns import may_be_left_out, may_come_again
from rowblade.signs import SIGNS

AHEAD_OF_ALL = (0,)
FOUND = (-1,)


def kinds(patterns):
    signs = signs_apart(patterns)
    tables = [table_of(one, signs) for one in patterns]
    rows = shortest_rows(tables, signs)
    return [(truths, rows[truths]) for truths in sorted(rows)]


# One sign for all those that no item of the patterns tells apart.
def signs_apart(patterns):
    apart = {}
    for sign in SIGNS:
        apart.setdefault(tuple([answers(one, sign) for one in patterns]), sign)
    return list(apart.values())


def answers(one, sign):
    return tuple([stands_for(item, sign) for item in one[1]])


def stands_for(item, sign):
    return (sign in item[0]) != item[1]


# Of one pattern: for each state, by its number, those that each sign leads to; and whether the pattern is found
# in a row that ends there.
def table_of(one, signs):
    start = settled(one, AHEAD_OF_ALL)
    states = [start]
    numbers = {start: 0}
    moves = []
    while len(moves) < len(states):
        here = states[len(moves)]
        ways = []
        for sign in signs:
            there = state_behind(one, here, sign)
            if there not in numbers:
                numbers[there] = len(states)
                states.append(there)
            ways.append(numbers[there])
        moves.append(ways)
    return (moves, [is_found(one, state) for state in states])


def state_behind(one, state, sign):
    if state == FOUND:
        return FOUND
    come = {}
    for place in state:
        for behind in places_behind(one[1], place, sign):
            come[behind] = True
    # Without front, a stretch may begin behind this sign.
    if not one[0]:
        come[0] = True
    return settled(one, tuple(sorted(come)))


# Without back, a stretch that has ended stays found, whatever comes.
def settled(one, state):
    if not one[2] and is_found(one, state):
        return FOUND
    return state


def is_found(one, state):
    return state == FOUND or any([may_end_at(one[1], place) for place in state])


def may_end_at(items, place):
    return all([may_be_left_out(item) for item in items[place:]])


def places_behind(items, place, sign):
    places = []
    if place > 0 and may_come_again(items[place - 1]) and stands_for(items[place - 1], sign):
        places.append(place)
    for number in range(place, len(items)):
        if stands_for(items[number], sign):
            places.append(number + 1)
        if not may_be_left_out(items[number]):
            break
    return places


# For each tuple of truths that there is, the first row that has it, going from no signs on, one sign more at a time.
def shortest_rows(tables, signs):
    start = tuple([0 for table in tables])
    seen = {start: True}
    level = [(start, "")]
    rows = {}
    while level:
        longer = []
        for here, row in level:
            rows.setdefault(truths_at(tables, here), row)
            for number, sign in enumerate(signs):
                there = step(tables, here, number)
                if there not in seen:
                    seen[there] = True
                    longer.append((there, row + sign))
        level = longer
    return rows


def truths_at(tables, here):
    return tuple([table[1][state] for table, state in zip(tables, here)])


def step(tables, here, number):
    return tuple([table[0][state][number] for table, state in zip(tables, here)])
