"""How many rooms a rule needs, and runs along which it loses some."""

from roomsback.demands import demand
from roomsback.judging import is_safe
from roomsback.kinds import is_number, is_rule, is_size
from roomsback.lifting import lifted_moves, makes_along
from roomsback.losing import losing_paper
from roomsback.machines import first_stand
from roomsback.pathwalks import views_along
from roomsback.runs import draining_moves
from roomsback.verdicts import verdict_on
from roomsback.walking import stands_from


def rooms_needed(size, rule):
    """Return the least number of rooms with which a make can always enter without a further step.

    None if the rule is not safe, or loses a room.
    """
    demand(is_size(size), "size")
    demand(is_rule(rule), "rule")
    return len(size[0]) + 1 if verdict_on(size, rule) == "good" else None


def renewing_moves(start, spare):
    """Return moves behind which the name of a start view, if it has one, leads alone to the room spare.

    Nothing is in flight ahead of them, and no step has touched the room.
    """
    if len(start[0]) == 0:
        return []
    return [("take", ("make", start[0][0], ()), spare), ("run", 0), ("leave",)]


def losing_moves(size, rule, stand, path, spare):
    """Return moves along which a room has the path, and behind which nothing is in flight, as ahead of them.

    If the start has a name, this leads to the room. No step has touched the room spare, or one above it.
    """
    views = views_along(size, rule, path)
    start, moves = path
    room = spare if start[1] else stand[0][size[0].index(start[0][0])]
    found = lifted_moves(views, moves, room, spare + 1)
    behind = stands_from(size, rule, stand, found)[-1]
    return [*found, *draining_moves(size, rule, behind)]


def losing_run(size, rule, times):
    """Return a pair of a number of rooms and a run with it behind which so many rooms are lost.

    None if the rule loses no room.
    """
    demand(is_size(size), "size")
    demand(is_rule(rule) and is_safe(size, rule), "rule")
    demand(is_number(times), "times")
    paper = losing_paper(size, rule)
    if paper is None:
        return None
    path = paper[0]
    many = len(size[0])
    # Each time takes rooms that are not touched yet: for the name, for the room that is lost, and for the makes.
    each = 2 + makes_along(path[1])
    rooms = many + times * each
    run = []
    stand = first_stand(size, rooms)
    for k in range(times):
        spare = many + k * each
        # At first each name leads to a room of its own anyhow.
        ahead = renewing_moves(path[0], spare) if k > 0 else []
        stand = stands_from(size, rule, stand, ahead)[-1]
        moves = losing_moves(size, rule, stand, path, spare + 1)
        stand = stands_from(size, rule, stand, moves)[-1]
        run.extend([*ahead, *moves])
    return rooms, tuple(run)
