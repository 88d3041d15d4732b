"""Views of a room, and the moves from one to the next."""

from roomsback.demands import demand
from roomsback.errors import NotPossible
from roomsback.kinds import is_rule, is_size
from roomsback.viewforms import is_any_view, is_view_of, needs_seen, starts_of
from roomsback.viewways import enter_ways, settled, way_by, ways_of


def start_views(size):
    """Return the start views."""
    demand(is_size(size), "size")
    return starts_of(size)


def is_view(size, thing):
    """Tell whether any value is a view of the size, by form."""
    demand(is_size(size), "size")
    return is_view_of(size, thing)


def needs_in(view):
    """Return the set of the needs of the room in a view."""
    demand(is_any_view(view), "view")
    return needs_seen(view)


def view_steps(size, view):
    """Return the steps that can enter and do not take the room, if a place is left."""
    demand(is_size(size), "size")
    demand(is_view_of(size, view), "view")
    return tuple([way[0][1] for way in enter_ways(size, view)])


def view_moves(size, view):
    """Return the moves that are possible in the view."""
    demand(is_size(size), "size")
    demand(is_view_of(size, view), "view")
    return tuple([way[0] for way in ways_of(size, view)])


def possible_way(size, view, move):
    """Return the way of any value, or say that it is no move that is possible in the view."""
    way = way_by(size, view, move)
    if way is None:
        raise NotPossible(-1)
    return way


def moments_at(size, view, move):
    """Return the set of the moments of the room at a move."""
    demand(is_size(size), "size")
    demand(is_view_of(size, view), "view")
    return possible_way(size, view, move)[2]


def view_behind(size, rule, view, move):
    """Return the view behind a move, with what the rule gives back."""
    demand(is_size(size), "size")
    demand(is_rule(rule), "rule")
    demand(is_view_of(size, view), "view")
    return settled(rule, possible_way(size, view, move))


def is_in_two_hands(size, view, move):
    """Tell whether a move is a take in two hands."""
    demand(is_size(size), "size")
    demand(is_view_of(size, view), "view")
    return possible_way(size, view, move)[3]
