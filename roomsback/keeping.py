"""Rules that lose no room."""

from roomsback.demands import demand
from roomsback.judging import view_table
from roomsback.kinds import is_rule, is_size
from roomsback.lateness import is_late, lost_among, path_views, ranks_among


def keeping_paper(size, rule):
    """Return the table of a safe rule, and ranks which show that it loses no room, None if it is not good."""
    table = view_table(size, rule)
    if table is None:
        return None
    ranks = ranks_among(size, rule, table)
    if any([is_late(view) and view not in ranks for view in table]):
        return None
    return table, tuple([ranks.get(view, None) for view in table])


def loses_none(size, rule):
    """Tell whether no path leads to a view in which the room is lost."""
    demand(is_size(size), "size")
    demand(is_rule(rule), "rule")
    return len(lost_among(size, rule, path_views(size, rule))) == 0
