"""Where two rules part."""

from roomsback.demands import demand
from roomsback.kinds import is_rule, is_size
from roomsback.viewsearch import least_path
from roomsback.viewways import settled


def parting_path(size, rule, other):
    """Return a path with the fewest moves behind which the rules part, None if they are alike."""
    demand(is_size(size), "size")
    demand(is_rule(rule), "rule")
    demand(is_rule(other), "other")
    # Up to where they part both lead to the same views, so it is enough to follow one of them.
    return least_path(size, rule, lambda way: settled(rule, way) != settled(other, way))


def are_alike(size, rule, other):
    """Tell whether the rules part behind no path."""
    return parting_path(size, rule, other) is None
