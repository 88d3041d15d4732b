"""Searching the views to which paths lead."""

from roomsback.viewforms import starts_of
from roomsback.viewways import settled, ways_of


def explored(size, rule, is_goal):
    """Return the views that are found, and the last view and move of a shortest path to a goal, if there is one.

    The views are a dict, which has for each view the one ahead of it and the move between, None for a start.
    Behind a take in two hands nothing is looked for; is_goal tells of a way whether it is looked for itself.
    """
    came = {view: None for view in starts_of(size)}
    todo = list(came)
    at = 0
    while at < len(todo):
        view = todo[at]
        at = at + 1
        for way in ways_of(size, view):
            if is_goal(way):
                return came, (view, way[0])
            behind = settled(rule, way)
            if not way[3] and behind not in came:
                came[behind] = (view, way[0])
                todo.append(behind)
    return came, None


def path_to(came, last):
    """Return the path of which last are the last view and move."""
    view, move = last
    moves = [move]
    while came[view] is not None:
        view, move = came[view]
        moves.append(move)
    return view, tuple(moves[::-1])


def least_path(size, rule, is_goal):
    """Return a path with the fewest moves of which the last one is a goal, None if there is none."""
    came, last = explored(size, rule, is_goal)
    return None if last is None else path_to(came, last)
