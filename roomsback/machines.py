"""The machine: its stands, and the moves that lead from one to the next."""

from roomsback.demands import demand
from roomsback.errors import NotPossible
from roomsback.firing import fires
from roomsback.kinds import is_number, is_rule, is_size
from roomsback.moving import (
    can_judge, can_leave, can_move, can_run, can_take,
    happenings, is_move_of, moments_here, needs_here, stepped,
)
from roomsback.stands import is_stand_of, rooms_in
from roomsback.steps import makes_of, sames_of


def demand_rooms(size, rooms):
    """Refuse what is no number of rooms for a size."""
    demand(is_number(rooms) and rooms >= len(size[0]), "rooms")


def first_stand(size, rooms):
    """Return the stand at first."""
    demand(is_size(size), "size")
    demand_rooms(size, rooms)
    many = len(size[0])
    leads = tuple(range(many))
    return leads, tuple(range(many, rooms)), leads, ()


def is_stand(size, rooms, thing):
    """Tell whether any value is a stand of the size with this number of rooms, by form."""
    demand(is_size(size), "size")
    demand_rooms(size, rooms)
    return is_stand_of(size, thing) and all([room < rooms for room in rooms_in(thing)])


def is_move(size, thing):
    """Tell whether any value is a move of the size, by form."""
    demand(is_size(size), "size")
    return is_move_of(size, thing)


def is_possible(size, stand, move):
    """Tell whether any value is a move that is possible in the stand."""
    demand(is_size(size), "size")
    demand(is_stand_of(size, stand), "stand")
    return can_move(size, stand, move)


def given_back(size, rule, stand, move, behind):
    """Return a list of the rooms that the rule gives back at a move; behind is the stand then."""
    happened = happenings(size, stand, move)
    return [room for _, room in happened if fires(rule, moments_here(happened, room), needs_here(behind, room))]


def stand_after(size, rule, stand, move):
    """Return what moved returns, of arguments that are known to be usable, and a move that is possible."""
    behind = stepped(size, stand, move)
    leads, free, filled, flight = behind
    given = given_back(size, rule, stand, move, behind)
    return leads, tuple(sorted(set([*free, *given]))), filled, flight


def moved(size, rule, stand, move):
    """Return the stand behind a move, with what the rule gives back."""
    demand(is_size(size), "size")
    demand(is_rule(rule), "rule")
    demand(is_stand_of(size, stand), "stand")
    if not can_move(size, stand, move):
        raise NotPossible(-1)
    return stand_after(size, rule, stand, move)


def moves_within(stand):
    """Return a list of the possible moves by which no step enters, in their order."""
    places = range(len(stand[3]))
    moves = [("leave",)] if can_leave(stand) else []
    judged = [k for k in places if can_judge(stand, k)]
    runs = [("run", k) for k in places if can_run(stand, k)]
    return [*moves, *runs, *[("right", k) for k in judged], *[("wrong", k) for k in judged]]


def possible_moves(size, stand):
    """Yield the moves that are possible in the stand."""
    demand(is_size(size), "size")
    demand(is_stand_of(size, stand), "stand")
    names, places, _, _ = size
    _, free, _, flight = stand
    yield from moves_within(stand)
    for step in [("guess",), *sames_of(size)]:
        if can_move(size, stand, ("enter", step)):
            yield ("enter", step)
    # Without a free room, or a place, there is no need to go through all makes.
    if len(free) == 0 or len(flight) >= places:
        return
    for step in makes_of(names):
        for room in free:
            if can_take(size, stand, step, room):
                yield ("take", step, room)
