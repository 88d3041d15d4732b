"""What moves do, for sizes, stands and moves that are known to be usable."""

from roomsback.kinds import is_any_step, is_number, is_step_of
from roomsback.stands import is_open, open_guesses, turned_by


def is_any_move(thing):
    """Tell whether any value is a move of some size, by form."""
    if not isinstance(thing, tuple) or len(thing) == 0 or not isinstance(thing[0], str):
        return False
    word, *rest = thing
    if word == "leave":
        return len(rest) == 0
    if word in ("run", "right", "wrong"):
        return len(rest) == 1 and is_number(rest[0])
    if word == "enter":
        return len(rest) == 1 and is_any_step(rest[0]) and rest[0][0] != "make"
    if word != "take" or len(rest) != 2:
        return False
    return is_any_step(rest[0]) and rest[0][0] == "make" and is_number(rest[1])


def are_moves(thing):
    """Tell whether any value is a tuple of moves of some size, by form."""
    return isinstance(thing, tuple) and all([is_any_move(move) for move in thing])


def is_move_of(size, thing):
    """Tell whether any value is a move of this size, by form."""
    if not is_any_move(thing):
        return False
    return thing[0] not in ("take", "enter") or is_step_of(size, thing[1])


def led_by(size, stand, names):
    """Return a list of the rooms to which these names lead, in their order."""
    return [stand[0][size[0].index(name)] for name in names]


def can_take(size, stand, step, room):
    """Tell whether a make can enter and take this room."""
    _, free, _, flight = stand
    return len(flight) < size[1] and room in free and room not in led_by(size, stand, step[2])


def can_enter(size, stand, step):
    """Tell whether a same or a guess can enter."""
    if len(stand[3]) >= size[1]:
        return False
    return step[0] != "guess" or open_guesses(stand[3]) < size[2]


def can_run(stand, k):
    """Tell whether there is a make at place k of flight that can run."""
    _, _, filled, flight = stand
    if k >= len(flight) or flight[k][0] != "make":
        return False
    _, _, read, _, is_run = flight[k]
    return not is_run and all([room in filled for room in read])


def can_judge(stand, k):
    """Tell whether there is an open guess at place k of flight."""
    return k < len(stand[3]) and is_open(stand[3][k])


def can_leave(stand):
    """Tell whether there is an oldest step that can leave."""
    if len(stand[3]) == 0:
        return False
    oldest = stand[3][0]
    return oldest[4] if oldest[0] == "make" else not is_open(oldest)


def can_move(size, stand, move):
    """Tell whether any value is a move that is possible."""
    if not is_move_of(size, move):
        return False
    word = move[0]
    if word == "take":
        return can_take(size, stand, move[1], move[2])
    if word == "enter":
        return can_enter(size, stand, move[1])
    if word == "run":
        return can_run(stand, move[1])
    if word == "leave":
        return can_leave(stand)
    return can_judge(stand, move[1])


def relead(size, leads, name, room):
    """Return leads with this name leading to the room."""
    at = size[0].index(name)
    return (*leads[:at], room, *leads[at + 1:])


def taken(size, stand, step, room):
    """Return the stand behind a make that enters, before the rule is asked."""
    leads, free, filled, flight = stand
    read = tuple(led_by(size, stand, step[2]))
    turned = led_by(size, stand, [step[1]])[0]
    free = tuple([kept for kept in free if kept != room])
    filled = tuple([kept for kept in filled if kept != room])
    return relead(size, leads, step[1], room), free, filled, (*flight, ("make", room, read, turned, False))


def entered(size, stand, step):
    """Return the stand behind a same or a guess that enters, before the rule is asked."""
    leads, free, filled, flight = stand
    if step[0] == "guess":
        return leads, free, filled, (*flight, ("guess", leads))
    turned, room = led_by(size, stand, step[1:])
    return relead(size, leads, step[1], room), free, filled, (*flight, ("same", room, turned))


def run_at(stand, k):
    """Return the stand behind the run of a make, before the rule is asked."""
    leads, free, filled, flight = stand
    _, room, read, turned, _ = flight[k]
    ran = ("make", room, read, turned, True)
    return leads, free, tuple(sorted(set([*filled, room]))), (*flight[:k], ran, *flight[k + 1:])


def stepped(size, stand, move):
    """Return the stand behind a possible move, before the rule is asked."""
    leads, free, filled, flight = stand
    word = move[0]
    if word == "take":
        return taken(size, stand, move[1], move[2])
    if word == "enter":
        return entered(size, stand, move[1])
    if word == "run":
        return run_at(stand, move[1])
    if word == "leave":
        return leads, free, filled, flight[1:]
    k = move[1]
    if word == "right":
        return leads, free, filled, (*flight[:k], ("guess", None), *flight[k + 1:])
    return flight[k][1], free, filled, (*flight[:k], ("guess", None))


def dropped_rooms(entry):
    """Return a list of the rooms that a step in flight is done with when it is dropped."""
    if entry[0] != "make":
        return []
    return [entry[1]] if entry[4] else [entry[1], *entry[2]]


def happenings(size, stand, move):
    """Return a list of the pairs of a moment and a room that has it at a possible move."""
    flight = stand[3]
    word = move[0]
    if word in ("take", "enter"):
        written = [] if move[1][0] == "guess" else [move[1][1]]
        return [("turned", room) for room in led_by(size, stand, written)]
    if word == "leave":
        return [("left", room) for room in turned_by(flight[0])]
    k = move[1]
    if word == "run":
        return [("made", flight[k][1]), *[("read", room) for room in flight[k][2]]]
    if word == "right":
        return [("right", room) for room in flight[k][1]]
    return [("gone", room) for entry in flight[k + 1:] for room in dropped_rooms(entry)]


def moments_here(happened, room):
    """Return the set of the moments of a room among such pairs."""
    return tuple(sorted({moment for moment, other in happened if other == room}))


def needs_here(stand, room):
    """Return the set of the needs of a room in a stand."""
    leads, _, _, flight = stand
    waiting = [entry for entry in flight if entry[0] == "make" and not entry[4]]
    needs = []
    if any([entry[1] == room for entry in waiting]):
        needs.append("maker")
    if room in leads:
        needs.append("name")
    if any([room in entry[1] for entry in flight if is_open(entry)]):
        needs.append("picture")
    if any([room in entry[2] for entry in waiting]):
        needs.append("reader")
    return tuple(needs)
