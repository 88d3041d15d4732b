"""How many rooms a rule needs, and runs along which it loses some."""

from roomsback.demands import demand
from roomsback.judging import is_safe
from roomsback.kinds import is_number, is_rule, is_size
from roomsback.lifting import lifted_moves, makes_along
from roomsback.losing import losing_paper
from roomsback.machines import first_stand
from roomsback.pathwalks import views_along
from roomsback.runs import draining_moves
from roomsback.verdicts import verdict_on
from roomsback.viewing import view_of
from roomsback.walking import stands_from


def rooms_needed(size, rule):
    """Return the least number of rooms with which a make can always enter without a further step.

    None if the rule is not safe, or loses a room.
    """
    demand(is_size(size), "size")
    demand(is_rule(rule), "rule")
    return len(size[0]) + 1 if verdict_on(size, rule) == "good" else None


def starting(size, stand, start, spare):
    """Return moves behind which a room has this start view, and the room; nothing is in flight.

    No step has touched the room spare, or one above it.
    """
    names = start[0]
    if len(names) == 0:
        return [], spare
    room = stand[0][size[0].index(names[0])]
    if view_of(size, stand, room) == start:
        return [], room
    # Else no new result is in the room of the name, or another name leads there, too.
    return [("take", ("make", names[0], ()), spare), ("run", 0), ("leave",)], spare


def losing_moves(size, rule, stand, path, spare):
    """Return moves along which a room has the path, and behind which nothing is in flight, as before.

    No step has touched the room spare, or one above it.
    """
    views = views_along(size, rule, path)
    start, moves = path
    ahead, room = starting(size, stand, start, spare)
    found = [*ahead, *lifted_moves(views, moves, room, spare + 1)]
    behind = stands_from(size, rule, stand, found)[-1]
    return [*found, *draining_moves(size, rule, behind)]


def losing_run(size, rule, times):
    """Return a pair of a number of rooms and a run with it behind which so many rooms are lost.

    None if the rule loses no room.
    """
    demand(is_size(size), "size")
    demand(is_rule(rule) and is_safe(size, rule), "rule")
    demand(is_number(times), "times")
    paper = losing_paper(size, rule)
    if paper is None:
        return None
    path = paper[0]
    many = len(size[0])
    # A room is lost each time, and each make of the path may take another one.
    each = 1 + makes_along(path[1])
    rooms = many + times * each
    run = []
    stand = first_stand(size, rooms)
    for k in range(times):
        moves = losing_moves(size, rule, stand, path, many + k * each)
        stand = stands_from(size, rule, stand, moves)[-1]
        run.extend(moves)
    return rooms, tuple(run)
