"""Looking at the rooms of a stand."""

from roomsback.demands import demand
from roomsback.errors import NotPossible
from roomsback.kinds import is_room, is_size
from roomsback.moving import can_move, happenings, moments_here, needs_here
from roomsback.stands import is_any_stand, is_stand_of, is_touched


def needs_of(stand, room):
    """Return the set of the needs of a room."""
    demand(is_any_stand(stand), "stand")
    demand(is_room(room), "room")
    return needs_here(stand, room)


def moments_of(size, stand, move, room):
    """Return the set of the moments of a room at a move."""
    demand(is_size(size), "size")
    demand(is_stand_of(size, stand), "stand")
    demand(is_room(room), "room")
    if not can_move(size, stand, move):
        raise NotPossible(-1)
    return moments_here(happenings(size, stand, move), room)


def holders_of(size, stand, room):
    """Return the set of the names that lead to a room."""
    demand(is_size(size), "size")
    demand(is_stand_of(size, stand), "stand")
    demand(is_room(room), "room")
    return tuple([name for k, name in enumerate(size[0]) if stand[0][k] == room])


def places_of(stand, room):
    """Return the set of the places in flight of the steps that touch a room."""
    demand(is_any_stand(stand), "stand")
    demand(is_room(room), "room")
    return tuple([k for k, entry in enumerate(stand[3]) if is_touched(entry, room)])
