"""Going along moves, and refusing what is no machine or no run of it."""

from roomsback.demands import demand
from roomsback.kinds import is_rule, is_size
from roomsback.machines import demand_rooms, first_stand, stand_after
from roomsback.moving import can_move


def demand_machine(size, rule, rooms):
    """Refuse what is no size, no rule, or no number of rooms for the size."""
    demand(is_size(size), "size")
    demand(is_rule(rule), "rule")
    demand_rooms(size, rooms)


def stands_from(size, rule, stand, moves):
    """Return a list of a stand and those behind these moves, up to the first that is not possible."""
    stands = [stand]
    for move in moves:
        if not can_move(size, stands[-1], move):
            return stands
        stands.append(stand_after(size, rule, stands[-1], move))
    return stands


def stands_of(size, rule, rooms, run):
    """Return a list of the first stand and those behind each move of a run, or refuse an argument."""
    demand_machine(size, rule, rooms)
    demand(isinstance(run, tuple), "run")
    stands = stands_from(size, rule, first_stand(size, rooms), run)
    demand(len(stands) == len(run) + 1, "run")
    return stands
