"""The stand at which a blade keeps the most rows, where there is a greatest number.

Going from no rows on, one row more at a time, a stand is left out where its room was come to before with nowhere less
on the shelves: whatever follows, the earlier stand keeps as many rows then, behind no more rows fed.
"""

from rowblade.loads import is_nowhere_less, moved


# A room that was come to, by its number, with this load on the shelves, from another stand by a row of this kind.
class Stand:
    def __init__(self, room, load, comes_from, kind):
        self.room = room
        self.load = load
        self.comes_from = comes_from
        self.kind = kind

    def kinds_fed(self):
        fed = []
        stand = self
        while stand.comes_from is not None:
            fed.append(stand.kind)
            stand = stand.comes_from
        return list(reversed(fed))


class Search:
    def __init__(self, rooms):
        self.rooms = rooms
        self.loads = rooms.steps.loads
        # For each room the loads with which it was come to, without those that are outdone.
        self.tops = [[] for room in rooms.all_rooms]
        self.fullest = Stand(0, self.loads.first_load(), None, None)
        self.most = 0
        self.outdoes(self.fullest)

    # Whether the stand is a new one; if so, it is noted.
    def outdoes(self, stand):
        tops = self.tops[stand.room]
        if any([is_nowhere_less(top, stand.load) for top in tops]):
            return False
        self.tops[stand.room] = [top for top in tops if not is_nowhere_less(stand.load, top)] + [stand.load]
        many = self.rooms.all_rooms[stand.room].rows_kept() + self.loads.rows_in(stand.load)
        if many > self.most:
            self.most = many
            self.fullest = stand
        return True

    # The new stands behind one row more, without those that another one of as many rows outdoes.
    def behind(self, stands):
        further = []
        for stand in stands:
            further.extend(self.behind_one(stand))
        return [stand for stand in further if stand.load in self.tops[stand.room]]

    def behind_one(self, stand):
        ways = self.rooms.ways[stand.room]
        stands = [Stand(way.there, moved(stand.load, way.move), stand, way.kind) for way in ways]
        return [there for there in stands if self.outdoes(there)]


# A tuple of the greatest number of rows and the kinds of as few rows as any that lead to it.
def fullest_of(rooms):
    search = Search(rooms)
    stands = [search.fullest]
    while stands:
        stands = search.behind(stands)
    return (search.most, search.fullest.kinds_fed())
