"""Views in which the room is late, and whether it is free again later on.

From a view in which the room is late no move is a take, and no move gives it
a need; so all moves lead to views in which it is late, or free.
"""

from roomsback.viewforms import needs_seen
from roomsback.viewsearch import explored
from roomsback.viewways import settled, ways_of


def is_late(view):
    """Tell whether the room is late in a view."""
    return not view[1] and len(needs_seen(view)) == 0


def next_views(size, rule, view):
    """Return a list of the views behind all moves that are possible in a view."""
    return [settled(rule, way) for way in ways_of(size, view)]


def late_views(size, rule, view):
    """Return a list of the views to which moves lead from one in which the room is late, and this one.

    None if the room is free in one of them.
    """
    known = {view: True}
    todo = [view]
    while todo:
        last = todo.pop()
        for behind in next_views(size, rule, last):
            if behind[1]:
                return None
            if behind not in known:
                known[behind] = True
                todo.append(behind)
    return list(known)


def is_lost_in(size, rule, view):
    """Tell whether the room is lost in a view."""
    return is_late(view) and late_views(size, rule, view) is not None


def ranks_among(size, rule, views):
    """Return a dict from those of the views in which the room is late, and from which a move leads on to a free room.

    It has for each the fewest moves that do. The views have all those behind moves from them in which it is late.
    """
    ahead = {view: next_views(size, rule, view) for view in views if is_late(view)}
    ranks = {}
    rank = 0
    found = [view for view in ahead if any([behind[1] for behind in ahead[view]])]
    while len(found) > 0:
        rank = rank + 1
        for view in found:
            ranks[view] = rank
        waiting = [view for view in ahead if view not in ranks]
        found = [view for view in waiting if any([behind in ranks for behind in ahead[view]])]
    return ranks


def path_views(size, rule):
    """Return the views to which paths without a take in two hands lead, as explored has them."""
    return explored(size, rule, lambda way: False)[0]


def lost_among(size, rule, views):
    """Return a list of those of such views in which the room is lost, in their order."""
    ranks = ranks_among(size, rule, views)
    return [view for view in views if is_late(view) and view not in ranks]
