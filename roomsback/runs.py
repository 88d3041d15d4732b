"""Runs: moves that are possible one behind the other."""

from roomsback.demands import demand
from roomsback.errors import InvalidPaper
from roomsback.machines import first_stand, stand_after
from roomsback.moving import are_moves, can_judge, can_leave, can_run
from roomsback.walking import demand_machine, stands_from, stands_of


def lets_run(size, rule, rooms, thing):
    """Return the number of moves of a run, or say why this value is none."""
    demand_machine(size, rule, rooms)
    if not isinstance(thing, tuple):
        raise InvalidPaper("shape", -1)
    done = len(stands_from(size, rule, first_stand(size, rooms), thing)) - 1
    if done < len(thing):
        raise InvalidPaper("move", done)
    return done


def stand_behind(size, rule, rooms, run):
    """Return the stand behind a run."""
    return stands_of(size, rule, rooms, run)[-1]


def stands_along(size, rule, rooms, run):
    """Yield the first stand, and the stands behind each move of a run."""
    yield from stands_of(size, rule, rooms, run)


def steps_in(run):
    """Return the steps that entered in a run, in order."""
    demand(are_moves(run), "run")
    return tuple([move[1] for move in run if move[0] in ("take", "enter")])


def draining_move(stand):
    """Return the next of the moves that drain a machine, None if none is possible."""
    places = range(len(stand[3]))
    moves = [("run", k) for k in places if can_run(stand, k)]
    moves.extend([("right", k) for k in places if can_judge(stand, k)])
    if can_leave(stand):
        moves.append(("leave",))
    return moves[0] if len(moves) > 0 else None


def draining_moves(size, rule, stand):
    """Return a list of the moves behind which nothing is in flight, None if they break off."""
    moves = []
    while len(stand[3]) > 0:
        move = draining_move(stand)
        if move is None:
            return None
        moves.append(move)
        stand = stand_after(size, rule, stand, move)
    return moves


def drained(size, rule, rooms, run):
    """Return the run with the moves behind it by which all steps in flight leave, None if not all can."""
    stand = stands_of(size, rule, rooms, run)[-1]
    moves = draining_moves(size, rule, stand)
    return None if moves is None else (*run, *moves)
