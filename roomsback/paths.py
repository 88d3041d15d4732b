"""Paths: moves of views from a start view on."""

from roomsback.demands import demand
from roomsback.errors import InvalidPaper
from roomsback.kinds import is_rule, is_size
from roomsback.pathwalks import views_along, followed


def lets_path(size, rule, thing):
    """Return the number of moves of a path, or say why this value is none."""
    demand(is_size(size), "size")
    demand(is_rule(rule), "rule")
    views, word, at = followed(size, rule, thing)
    if word is not None:
        raise InvalidPaper(word, at)
    return len(views) - 1


def view_at_end(size, rule, path):
    """Return the view behind the moves of a path."""
    demand(is_size(size), "size")
    demand(is_rule(rule), "rule")
    return views_along(size, rule, path)[-1]
