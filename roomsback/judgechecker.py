"""The checkers of what judging returns."""

from roomsback.demands import demand
from roomsback.errors import InvalidPaper
from roomsback.kinds import is_rule, is_size
from roomsback.paths import lets_path
from roomsback.pathwalks import ends_in_hands, views_along
from roomsback.viewforms import is_view_of, starts_of
from roomsback.viewways import settled, ways_of


def lets_two(size, rule, thing):
    """Return the number of moves of a path that ends in two hands, or say why this value is none."""
    many = lets_path(size, rule, thing)
    if not ends_in_hands(size, views_along(size, rule, thing), thing[1]):
        raise InvalidPaper("last", -1)
    return many


def check_view(size, views, k):
    """Refuse element k of a tuple if it is no view of the size, or not greater than the one ahead, which is one."""
    if not is_view_of(size, views[k]) or k > 0 and not views[k - 1] < views[k]:
        raise InvalidPaper("view", k)


def check_ways(size, rule, known, k, view):
    """Refuse view k if a move from it is in two hands, or leads to a view that is not known."""
    for m, way in enumerate(ways_of(size, view)):
        if way[3]:
            raise InvalidPaper("hands", (k, m))
        if settled(rule, way) not in known:
            raise InvalidPaper("move", (k, m))


def lets_table(size, rule, thing):
    """Return the number of views of a table that shows that the rule is safe, or say why this value is none."""
    demand(is_size(size), "size")
    demand(is_rule(rule), "rule")
    if not isinstance(thing, tuple):
        raise InvalidPaper("shape", -1)
    for k in range(len(thing)):
        check_view(size, thing, k)
    known = {view: True for view in thing}
    for k, start in enumerate(starts_of(size)):
        if start not in known:
            raise InvalidPaper("start", k)
    for k, view in enumerate(thing):
        check_ways(size, rule, known, k, view)
    return len(thing)
