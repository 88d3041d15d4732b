"""Runs along which a room has a given path."""

from roomsback.demands import demand
from roomsback.kinds import is_rule, is_size
from roomsback.pathwalks import views_along


def room_of(size, start):
    """Return the room that is seen so at first; if it is free, it is the first one without a name."""
    names = size[0]
    return len(names) if start[1] else names.index(start[0][0])


def is_make(move):
    """Tell whether by a move of views a make enters."""
    return move[0] in ("take", "enter") and move[1][0] == "make"


def lifted(view, move, room, spare):
    """Return a list of the moves of a machine that are seen from the room as this move in the view."""
    if not is_make(move):
        return [move]
    if move[0] == "take":
        return [("take", move[1], room)]
    taken = ("take", move[1], spare)
    # All steps in flight touch the room. A make that does not read it is not seen to run, but could not leave else.
    return [taken] if len(move[1][2]) > 0 else [taken, ("run", len(view[3]))]


def lifted_moves(views, moves, room, spare):
    """Return a list of the moves of a machine that are seen from the room as these moves, each in its view.

    No step has touched the room spare, or one above it.
    """
    found = []
    for view, move in zip(views, moves):
        found.extend(lifted(view, move, room, spare))
        # Each make that does not take the room takes another one.
        spare = spare + 1 if is_make(move) else spare
    return found


def makes_along(moves):
    """Return how many makes enter by these moves of views."""
    return len([move for move in moves if is_make(move)])


def run_of(size, rule, path):
    """Return a triple of a number of rooms, a run, and a room of which this is the path along the run."""
    demand(is_size(size), "size")
    demand(is_rule(rule), "rule")
    views = views_along(size, rule, path)
    start, moves = path
    room = room_of(size, start)
    spare = len(size[0]) + 1 if start[1] else len(size[0])
    return len(size[0]) + makes_along(moves) + 1, tuple(lifted_moves(views, moves, room, spare)), room
