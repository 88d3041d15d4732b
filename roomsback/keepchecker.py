"""The checker of papers about rules that lose no room."""

from roomsback.demands import demand
from roomsback.errors import InvalidPaper
from roomsback.judgechecker import lets_table
from roomsback.kinds import is_number, is_rule, is_size
from roomsback.lateness import is_late, next_views


def is_lesser(rank, other):
    """Tell whether any value is a number that is less than this one."""
    return is_number(rank) and rank < other


def is_ranked(size, rule, ranks, view):
    """Tell whether a view of a table has the rank that it should have; ranks has any value for each."""
    rank = ranks[view]
    if rank is not None and not is_number(rank):
        return False
    if not is_late(view):
        return True
    if rank is None:
        return False
    # Where the room is late, it is late or free behind each move.
    return any([behind[1] or is_lesser(ranks[behind], rank) for behind in next_views(size, rule, view)])


def lets_keeping(size, rule, thing):
    """Return the number of views of a table with ranks that shows that a rule is good, or say why it does not."""
    demand(is_size(size), "size")
    demand(is_rule(rule), "rule")
    if not isinstance(thing, tuple) or len(thing) != 2 or not all([isinstance(part, tuple) for part in thing]):
        raise InvalidPaper("shape", -1)
    table, ranks = thing
    if len(table) != len(ranks):
        raise InvalidPaper("shape", -1)
    many = lets_table(size, rule, table)
    by_view = dict(zip(table, ranks))
    for k, view in enumerate(table):
        if not is_ranked(size, rule, by_view, view):
            raise InvalidPaper("rank", k)
    return many
