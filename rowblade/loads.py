"""How many rows lie on the shelves, as far as later deeds can tell it.

A load is a tuple of numbers: 0, and for each shelf how many rows its last thing is made of, its last two, and so on, up
to the greatest number that one of its piles is told, and at last all of them. Whatever the deeds of one step do, each
number becomes one that was there and so much more: a move is a tuple of these (place, more), one for each place.
"""

from rowblade.lines import Pile

NOTHING = 0


class Loads:
    def __init__(self, lines):
        # By its name, the places of a shelf: NOTHING, then those told above.
        self.places = {}
        self.size = 1
        for shelf, most in greatest_numbers(lines).items():
            self.places[shelf] = [NOTHING] + list(range(self.size, self.size + most + 1))
            self.size += most + 1
        # The places of all the rows of each shelf.
        self.totals = [places[-1] for places in self.places.values()]

    def first_load(self):
        return tuple([0] * self.size)

    # Of the piles and brings of one step, in order; all the things piled are made of so many rows.
    def move_of(self, deeds, hand_rows):
        move = [(place, 0) for place in range(self.size)]
        for deed in deeds:
            if deed.shelf not in self.places:
                continue
            places = self.places[deed.shelf]
            came_from = piled_from(places, deed.most) if isinstance(deed, Pile) else emptied_from(places)
            more = hand_rows if isinstance(deed, Pile) else 0
            changed = [(move[place][0], move[place][1] + more) for place in came_from]
            for place, change in zip(places[1:], changed):
                move[place] = change
        return tuple(move)

    def rows_in(self, load):
        return sum([load[place] for place in self.totals])


# By its name, for each shelf that something is piled on, the greatest number that such a line tells, 0 if none does.
def greatest_numbers(lines):
    numbers = {}
    for line in lines:
        if isinstance(line.deed, Pile):
            most = 0 if line.deed.most is None else line.deed.most
            numbers[line.deed.shelf] = max([most, numbers.get(line.deed.shelf, 0)])
    return numbers


# With one thing more, the rows of the last few things are its own and those of one thing less as it was.
def piled_from(places, most):
    if most is None:
        return places[:-2] + places[-1:]
    return [places[min([number, most]) - 1] for number in range(1, len(places))]


def emptied_from(places):
    return [NOTHING] * (len(places) - 1)


def moved(load, move):
    return tuple([load[place] + more for place, more in move])


# No deeds to come make a load that is nowhere less keep less than the other one.
def is_nowhere_less(load, other):
    return all([mine >= yours for mine, yours in zip(load, other)])
