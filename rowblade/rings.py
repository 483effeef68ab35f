"""Rings of ways on which a shelf gets fuller and fuller: it is piled on, and never emptied nor cut down."""


# The number of a room, and the kinds that lead from it round to it again with more on some shelf; or None.
def growing_ring(rooms):
    for place in rooms.steps.loads.totals:
        ring = ring_at(rooms.ways, place)
        if ring is not None:
            return ring
    return None


def ring_at(ways, place):
    staying = [those_that_stay(some, place) for some in ways]
    parts = ring_parts([rooms_behind(some) for some in staying])
    for here, some in enumerate(staying):
        for way in some:
            if grows(way, place) and parts[here] == parts[way.there]:
                return (here, [way.kind] + kinds_between(staying, way.there, here))
    return None


# Those on which nothing goes from the shelf whose rows this place of a load counts.
def those_that_stay(ways, place):
    return [way for way in ways if way.move[place][0] == place]


def rooms_behind(ways):
    return [way.there for way in ways]


def grows(way, place):
    return way.move[place][1] > 0


# The kinds of a shortest way from one room to another; there is one.
def kinds_between(ways, here, goal):
    told = {here: []}
    level = [here]
    while goal not in told:
        further = []
        for number in level:
            for way in ways[number]:
                if way.there not in told:
                    told[way.there] = told[number] + [way.kind]
                    further.append(way.there)
        level = further
    return told[goal]


# Of numbers that lead to others: for each, one that is the same for all those that lie on a ring with it.
# What is left last leads to all of its ring, and of those that lead to it only its ring isn't looked at before.
def ring_parts(nexts):
    leading_to = turned_round(nexts)
    parts = {}
    for number in reversed(order_of_leaving(nexts)):
        trail = [] if number in parts else [number]
        parts.setdefault(number, number)
        while trail:
            for here in leading_to[trail.pop()]:
                if here not in parts:
                    parts[here] = number
                    trail.append(here)
    return parts


def turned_round(nexts):
    leading_to = [[] for some in nexts]
    for here, some in enumerate(nexts):
        for there in some:
            leading_to[there].append(here)
    return leading_to


# Going on from number to number as long as there is a new one: the order in which they are left for good.
def order_of_leaving(nexts):
    order = []
    tried = {}
    for start in range(len(nexts)):
        trail = [] if start in tried else [start]
        tried.setdefault(start, 0)
        while trail:
            here = trail[-1]
            if tried[here] == len(nexts[here]):
                order.append(trail.pop())
            else:
                there = nexts[here][tried[here]]
                tried[here] += 1
                if there not in tried:
                    tried[there] = 0
                    trail.append(there)
    return order
