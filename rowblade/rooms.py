"""All the rooms that a blade comes to, fed whole rows, and the ways from one to another."""

from rowblade.rows import pasted
from rowblade.steps import Steps


# A row of this kind leads to the room of this number, and moves what lies on the shelves so.
class Way:
    def __init__(self, kind, there, move):
        self.kind = kind
        self.there = there
        self.move = move


class Rooms:
    def __init__(self, program):
        self.steps = Steps(program)
        # Rooms are numbered in the order in which they are come to, so those behind fewer rows come first.
        self.numbers = {}
        self.all_rooms = []
        # For each room a shortest row of kinds that leads to it, told as the room ahead of it and the last kind.
        self.comes_from = []
        # For each room its ways, and the kinds of rows at which the blade runs for ever.
        self.ways = []
        self.refused = []
        self.number_of_room(self.steps.first_room(), None)
        while len(self.ways) < len(self.all_rooms):
            self.look_round(len(self.ways))

    def number_of_room(self, room, comes_from):
        key = room.as_tuple()
        if key not in self.numbers:
            self.numbers[key] = len(self.all_rooms)
            self.all_rooms.append(room)
            self.comes_from.append(comes_from)
        return self.numbers[key]

    def look_round(self, here):
        ways = {}
        refused = []
        for kind in range(len(self.steps.kinds)):
            step = self.steps.behind_row(self.all_rooms[here], kind)
            if step is None:
                refused.append(kind)
            else:
                there = self.number_of_room(step[0], (here, kind))
                # Of several kinds that do the same one is enough.
                ways.setdefault((there, step[1]), Way(kind, there, step[1]))
        self.ways.append(list(ways.values()))
        self.refused.append(refused)

    def kinds_to(self, number):
        told = []
        comes_from = self.comes_from[number]
        while comes_from is not None:
            told.append(comes_from[1])
            comes_from = self.comes_from[comes_from[0]]
        return list(reversed(told))

    def text_of(self, some_kinds):
        return pasted([self.steps.kinds[kind][1] for kind in some_kinds])
