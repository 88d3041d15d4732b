"""Rules that are made of other rules."""

from roomsback.demands import demand
from roomsback.kinds import MOMENTS, NEEDS, is_clause, is_moment, is_need, is_needs, is_rule


def with_clause(rule, clause):
    """Return the rule with this clause, too."""
    demand(is_rule(rule), "rule")
    demand(is_clause(clause) and clause not in rule, "clause")
    return tuple(sorted([*rule, clause]))


def without_clause(rule, clause):
    """Return the rule without this clause of it."""
    demand(is_rule(rule), "rule")
    demand(is_clause(clause) and clause in rule, "clause")
    return tuple([kept for kept in rule if kept != clause])


def joined(rule, other):
    """Return the rule of the clauses in one of both."""
    demand(is_rule(rule), "rule")
    demand(is_rule(other), "other")
    return tuple(sorted(set(rule) | set(other)))


def common(rule, other):
    """Return the rule of the clauses in both."""
    demand(is_rule(rule), "rule")
    demand(is_rule(other), "other")
    return tuple(sorted(set(rule) & set(other)))


def with_test(clause, need):
    """Return the clause with this need among its tests."""
    return clause[0], tuple(sorted(set([*clause[1], need])))


def tested(rule, need, *, moment=None):
    """Return the rule with this need added to the tests, at one moment or at all."""
    demand(is_rule(rule), "rule")
    demand(is_need(need), "need")
    demand(moment is None or is_moment(moment), "moment")
    changed = []
    for clause in rule:
        if moment is None or clause[0] == moment:
            changed.append(with_test(clause, need))
        else:
            changed.append(clause)
    # Clauses that became equal are one.
    return tuple(sorted(set(changed)))


def every_moment(tests):
    """Return the rule of a clause with these tests for each moment."""
    demand(is_needs(tests), "tests")
    return tuple([(moment, tests) for moment in MOMENTS])


def full_rule():
    """Return the rule of all moments, with all needs as their tests."""
    return every_moment(NEEDS)
