"""The checker of rules."""

from roomsback.errors import InvalidPaper
from roomsback.kinds import is_clause


def lets_rule(thing):
    """Return how many clauses a rule has, or say why this value is none."""
    if not isinstance(thing, tuple):
        raise InvalidPaper("shape", -1)
    for k, clause in enumerate(thing):
        if not is_clause(clause):
            raise InvalidPaper("clause", k)
        if k > 0 and not thing[k - 1] < clause:
            raise InvalidPaper("order", k)
    return len(thing)
