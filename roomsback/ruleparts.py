"""The parts of a rule."""

from roomsback.demands import demand
from roomsback.kinds import is_moment, is_rule


def clauses_at(rule, moment):
    """Return the set of the clauses with this moment."""
    demand(is_rule(rule), "rule")
    demand(is_moment(moment), "moment")
    return tuple([clause for clause in rule if clause[0] == moment])


def moments_in(rule):
    """Return the set of the moments of all clauses."""
    demand(is_rule(rule), "rule")
    return tuple(sorted({clause[0] for clause in rule}))


def tests_in(rule):
    """Return the set of the needs in the tests of all clauses."""
    demand(is_rule(rule), "rule")
    return tuple(sorted({need for clause in rule for need in clause[1]}))
