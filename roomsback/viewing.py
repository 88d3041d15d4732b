"""How one room of a machine is seen."""

from roomsback.demands import demand
from roomsback.kinds import is_room, is_size
from roomsback.lookings import holders_of
from roomsback.moving import led_by
from roomsback.stands import is_open, is_stand_of, is_touched, turned_by
from roomsback.viewways import way_by
from roomsback.walking import stands_of


def entry_of(size, entry, room):
    """Return the entry in the view of a room for a step in flight that touches it."""
    if is_open(entry):
        return "guess", tuple([name for k, name in enumerate(size[0]) if entry[1][k] == room])
    words = []
    if entry[0] == "make" and entry[1] == room:
        words.append("made" if entry[4] else "makes")
    if entry[0] == "make" and room in entry[2] and not entry[4]:
        words.append("reads")
    if room in turned_by(entry):
        words.append("turns")
    return tuple(words)


def view_of(size, stand, room):
    """Return the view of a room in a stand."""
    demand(is_size(size), "size")
    demand(is_stand_of(size, stand), "stand")
    demand(is_room(room), "room")
    _, free, filled, flight = stand
    entries = [entry_of(size, entry, room) for entry in flight if is_touched(entry, room)]
    return holders_of(size, stand, room), room in free, room in filled, tuple(entries)


def seen_take(size, stand, move, room):
    """Return how a take is seen from a room, None if its step does not touch the room."""
    _, step, took = move
    _, name, sources = step
    if took == room:
        return "take", ("make", name, ())
    seen = [source for source in sources if led_by(size, stand, [source]) == [room]]
    if len(seen) == 0 and led_by(size, stand, [name]) != [room]:
        return None
    return "enter", ("make", name, tuple(seen[:1]))


def seen_move(size, stand, move, room):
    """Return how a possible move is seen from a room, None if it does not touch the room."""
    flight = stand[3]
    word = move[0]
    if word == "take":
        return seen_take(size, stand, move, room)
    if word == "enter":
        # Behind the word of a same stand its two names; a guess touches each room.
        return move if move[1][0] == "guess" or room in led_by(size, stand, move[1][1:]) else None
    if word == "leave":
        return move if is_touched(flight[0], room) else None
    k = move[1]
    if word == "run" and room != flight[k][1] and room not in flight[k][2]:
        return None
    return word, len([entry for entry in flight[:k] if is_touched(entry, room)])


def path_of(size, rule, rooms, run, room):
    """Return the path of a room along a run, up to its first take in two hands."""
    stands = stands_of(size, rule, rooms, run)
    demand(is_room(room) and room < rooms, "room")
    moves = []
    for stand, move in zip(stands, run):
        seen = seen_move(size, stand, move, room)
        if seen is None:
            continue
        moves.append(seen)
        if way_by(size, view_of(size, stand, room), seen)[3]:
            break
    return view_of(size, stands[0], room), tuple(moves)
