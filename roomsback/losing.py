"""Rooms that are lost, and rooms that are late."""

from roomsback.demands import demand
from roomsback.kinds import is_rule, is_size
from roomsback.lateness import is_late, is_lost_in, late_views, lost_among, path_views
from roomsback.viewforms import is_view_of
from roomsback.viewsearch import least_path, path_to
from roomsback.viewways import settled


def is_lost(size, rule, view):
    """Tell whether the room is lost in a view."""
    demand(is_size(size), "size")
    demand(is_rule(rule), "rule")
    demand(is_view_of(size, view), "view")
    return is_lost_in(size, rule, view)


def losing_paper(size, rule):
    """Return a path with the fewest moves behind which the room is lost, and the views from there on, or None."""
    demand(is_size(size), "size")
    demand(is_rule(rule), "rule")
    came = path_views(size, rule)
    lost = lost_among(size, rule, came)
    if len(lost) == 0:
        return None
    # The views were found by their distance, so none of the lost ones is nearer than the first.
    return path_to(came, came[lost[0]]), tuple(sorted(late_views(size, rule, lost[0])))


def late_path(size, rule):
    """Return a path with the fewest moves to a view in which the room is late, None if there is none."""
    demand(is_size(size), "size")
    demand(is_rule(rule), "rule")
    return least_path(size, rule, lambda way: is_late(settled(rule, way)))
