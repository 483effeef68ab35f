"""Programs looked through ahead: how many rows a blade must keep at a time, and whether it can run for ever."""

from rowblade.fullest import fullest_of
from rowblade.rings import growing_ring
from rowblade.rooms import Rooms


def needed(program):
    rooms = Rooms(program)
    ring = growing_ring(rooms)
    if ring is not None:
        return ("more", rooms.text_of(rooms.kinds_to(ring[0])), rooms.text_of(ring[1]))
    most = fullest_of(rooms)
    return ("most", most[0], rooms.text_of(most[1]))


def endless(program):
    rooms = Rooms(program)
    shortest = None
    for number in range(len(rooms.all_rooms)):
        refused = kinds_refused(rooms, number)
        if refused is not None and (shortest is None or len(refused) < len(shortest)):
            shortest = refused
    return None if shortest is None else rooms.text_of(shortest)


# The kinds of as few rows as any that run for ever, the way to this room being a part of them; or None.
def kinds_refused(rooms, number):
    if rooms.steps.is_refused_at_finish(rooms.all_rooms[number]):
        return rooms.kinds_to(number)
    if rooms.refused[number]:
        return rooms.kinds_to(number) + rooms.refused[number][:1]
    return None
