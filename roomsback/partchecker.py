"""The checker of paths behind which two rules part."""

from roomsback.demands import demand
from roomsback.errors import InvalidPaper
from roomsback.kinds import is_rule, is_size
from roomsback.paths import lets_path
from roomsback.pathwalks import views_along
from roomsback.viewways import settled, way_by


def lets_parting(size, rule, other, thing):
    """Return the number of moves of a path behind which the rules part, or say why this value is none."""
    demand(is_size(size), "size")
    demand(is_rule(rule), "rule")
    demand(is_rule(other), "other")
    many = lets_path(size, rule, thing)
    views = views_along(size, rule, thing)
    # Up to where they part both rules lead to the same views.
    for k, move in enumerate(thing[1]):
        parts = settled(other, way_by(size, views[k], move)) != views[k + 1]
        if parts and k < many - 1:
            raise InvalidPaper("other", k)
        if parts:
            return many
    raise InvalidPaper("last", -1)
