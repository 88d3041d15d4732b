"""The form of stands, and what their steps in flight touch."""

from roomsback.kinds import is_ascending, is_room


def are_rooms(thing):
    """Tell whether any value is a tuple of rooms, in any order."""
    return isinstance(thing, tuple) and all([is_room(room) for room in thing])


def is_room_set(thing):
    """Tell whether any value is a set of rooms."""
    return are_rooms(thing) and is_ascending(thing)


def is_make_in(many, thing):
    """Tell whether a tuple is a make in flight, where there are so many names."""
    if len(thing) != 5:
        return False
    _, room, read, turned, is_run = thing
    if not is_room(room) or not is_room(turned) or not isinstance(is_run, bool):
        return False
    return are_rooms(read) and len(read) <= many


def is_in_flight(many, thing):
    """Tell whether any value is a step in flight, where there are so many names."""
    if not isinstance(thing, tuple) or len(thing) < 2 or not isinstance(thing[0], str):
        return False
    if thing[0] == "make":
        return is_make_in(many, thing)
    if thing[0] == "same":
        return len(thing) == 3 and is_room(thing[1]) and is_room(thing[2])
    if thing[0] != "guess" or len(thing) != 2:
        return False
    return thing[1] is None or are_rooms(thing[1]) and len(thing[1]) == many


def is_any_stand(thing):
    """Tell whether any value is a stand of some size with some number of rooms."""
    if not isinstance(thing, tuple) or len(thing) != 4:
        return False
    leads, free, filled, flight = thing
    if not are_rooms(leads) or len(leads) == 0:
        return False
    if not is_room_set(free) or not is_room_set(filled) or not isinstance(flight, tuple):
        return False
    return all([is_in_flight(len(leads), entry) for entry in flight])


def is_open(entry):
    """Tell whether a step in flight is an open guess."""
    return entry[0] == "guess" and entry[1] is not None


def open_guesses(flight):
    """Return how many of the steps in flight are open guesses."""
    return len([entry for entry in flight if is_open(entry)])


def is_stand_of(size, thing):
    """Tell whether any value is a stand of this size with some number of rooms."""
    if not is_any_stand(thing):
        return False
    names, places, guesses, copies = size
    flight = thing[3]
    words = [entry[0] for entry in flight]
    if len(thing[0]) != len(names) or len(flight) > places or open_guesses(flight) > guesses:
        return False
    return (copies or "same" not in words) and (guesses >= 1 or "guess" not in words)


def rooms_of(entry):
    """Return a list of the rooms that stand in a step in flight."""
    if entry[0] == "make":
        return [entry[1], *entry[2], entry[3]]
    if entry[0] == "same":
        return [entry[1], entry[2]]
    return list(entry[1]) if is_open(entry) else []


def rooms_in(stand):
    """Return a list of all rooms that stand in a stand."""
    leads, free, filled, flight = stand
    return [*leads, *free, *filled, *[room for entry in flight for room in rooms_of(entry)]]


def turned_by(entry):
    """Return a list with the room that a step in flight turns, if there is one."""
    if entry[0] == "make":
        return [entry[3]]
    return [entry[2]] if entry[0] == "same" else []


def is_touched(entry, room):
    """Tell whether a step in flight touches a room."""
    # A guess touches each room, whether it is open or not.
    return entry[0] == "guess" or room in rooms_of(entry)
