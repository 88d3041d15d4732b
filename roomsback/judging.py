"""Judging rules: whether a room can come into two hands."""

from roomsback.demands import demand
from roomsback.kinds import is_rule, is_size
from roomsback.viewsearch import explored, least_path


def is_in_hands(way):
    """Tell whether a way is a take in two hands."""
    return way[3]


def two_path(size, rule):
    """Return a path with the fewest moves that ends in two hands, None if there is none."""
    demand(is_size(size), "size")
    demand(is_rule(rule), "rule")
    return least_path(size, rule, is_in_hands)


def is_safe(size, rule):
    """Tell whether no path ends in two hands."""
    return two_path(size, rule) is None


def view_table(size, rule):
    """Return the set of the views to which paths lead, None if the rule is not safe."""
    demand(is_size(size), "size")
    demand(is_rule(rule), "rule")
    came, last = explored(size, rule, is_in_hands)
    return tuple(sorted(list(came))) if last is None else None
