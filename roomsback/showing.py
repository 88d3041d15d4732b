"""Runs that show that a rule gives rooms back too soon."""

from roomsback.judging import two_path
from roomsback.lifting import run_of
from roomsback.lookings import holders_of
from roomsback.runs import draining_moves
from roomsback.stands import is_open
from roomsback.walking import stands_from, stands_of


def waits(entry):
    """Tell whether a step in flight is a make that has not run."""
    return entry[0] == "make" and not entry[4]


def spoiling(size, stand, room, name):
    """Return the moves by which a need of the room gets a wrong result, and the name that leads to this then.

    A make of this name has just taken the room in two hands. The name is None if a make in flight has read it.
    """
    flight = stand[3]
    last = len(flight) - 1
    ahead = list(enumerate(flight[:last]))
    for k, entry in ahead:
        if waits(entry) and room in entry[2]:
            return [("run", last), ("run", k)], None
    for k, entry in ahead:
        if waits(entry) and entry[1] == room:
            return [("run", last), ("run", k)], name
    # From here on no other make will run into the room.
    for k, entry in ahead:
        if is_open(entry) and room in entry[1]:
            return [("run", last), ("wrong", k)], size[0][entry[1].index(room)]
    others = [holder for holder in holders_of(size, stand, room) if holder != name]
    return [("run", last)], others[0]


def read_by_all(size, rule, stand, moves, name, spare):
    """Return these moves, and those by which all steps leave, and then a make that reads the name, if it is one."""
    behind = stands_from(size, rule, stand, moves)[-1]
    moves = [*moves, *draining_moves(size, rule, behind)]
    if name is None:
        return moves
    return [*moves, ("take", ("make", name, (name,)), spare), ("run", 0), ("leave",)]


def showing_run(size, rule):
    """Return a pair of a number of rooms and a run with it that shows, None if there is none."""
    path = two_path(size, rule)
    if path is None:
        return None
    spare, run, room = run_of(size, rule, path)
    # A further room, which no step has touched, is for the make that reads at last.
    rooms = spare + 1
    stand = stands_of(size, rule, rooms, run)[-1]
    moves, name = spoiling(size, stand, room, path[1][-1][1][1])
    return rooms, (*run, *read_by_all(size, rule, stand, moves, name, spare))
