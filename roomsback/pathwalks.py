"""Going along the moves of a path."""

from roomsback.demands import demand
from roomsback.viewforms import is_view_of, starts_of
from roomsback.viewways import settled, way_by


def is_start(size, thing):
    """Tell whether any value is a start view of the size."""
    return is_view_of(size, thing) and thing in starts_of(size)


def followed(size, rule, thing):
    """Return the views along any value, as far as it is a path, and the word and the place at which it is none.

    The word is None if it is a path.
    """
    if not isinstance(thing, tuple) or len(thing) != 2 or not isinstance(thing[1], tuple):
        return [], "shape", -1
    start, moves = thing
    if not is_start(size, start):
        return [], "start", -1
    views = [start]
    for k, move in enumerate(moves):
        way = way_by(size, views[-1], move)
        if way is None:
            return views, "move", k
        if way[3] and k < len(moves) - 1:
            return views, "hands", k
        views.append(settled(rule, way))
    return views, None, -1


def is_path(size, rule, thing):
    """Tell whether any value is a path."""
    _, word, _ = followed(size, rule, thing)
    return word is None


def views_along(size, rule, path):
    """Return a list of the start of a path and the views behind its moves, or refuse what is no path."""
    views, word, _ = followed(size, rule, path)
    demand(word is None, "path")
    return views


def ends_in_hands(size, views, moves):
    """Tell whether a path with these views and moves has a last move, and this is in two hands."""
    return len(moves) > 0 and way_by(size, views[-2], moves[-1])[3]
