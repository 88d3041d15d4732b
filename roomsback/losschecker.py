"""The checker of papers about rooms that are lost."""

from roomsback.demands import demand
from roomsback.errors import InvalidPaper
from roomsback.judgechecker import check_view
from roomsback.kinds import is_rule, is_size
from roomsback.lateness import is_late, next_views
from roomsback.paths import lets_path, view_at_end


def check_kept(size, views):
    """Refuse what are no ascending views of the size, or a view in which the room is free."""
    for k, view in enumerate(views):
        check_view(size, views, k)
        if view[1]:
            raise InvalidPaper("free", k)


def check_closed(size, rule, views):
    """Refuse views from which a move leads out."""
    known = {view: True for view in views}
    for k, view in enumerate(views):
        for m, behind in enumerate(next_views(size, rule, view)):
            if behind not in known:
                raise InvalidPaper("out", (k, m))


def lets_losing(size, rule, thing):
    """Return the number of moves of a path behind which the room is lost, or say why this value is no such paper."""
    demand(is_size(size), "size")
    demand(is_rule(rule), "rule")
    if not isinstance(thing, tuple) or len(thing) != 2 or not isinstance(thing[1], tuple):
        raise InvalidPaper("shape", -1)
    path, views = thing
    many = lets_path(size, rule, path)
    end = view_at_end(size, rule, path)
    if not is_late(end):
        raise InvalidPaper("need", -1)
    check_kept(size, views)
    if end not in views:
        raise InvalidPaper("end", -1)
    check_closed(size, rule, views)
    return many
