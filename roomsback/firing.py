"""When a rule gives a room back."""

from roomsback.demands import demand
from roomsback.kinds import is_moments, is_needs, is_rule


def fires(rule, moments, needs):
    """Tell what is_freed tells, of arguments that are known to be usable."""
    for moment, tests in rule:
        if moment in moments and not any([need in needs for need in tests]):
            return True
    return False


def is_freed(rule, moments, needs):
    """Tell whether a room with these moments, and these needs behind them, is given back."""
    demand(is_rule(rule), "rule")
    demand(is_moments(moments), "moments")
    demand(is_needs(needs), "needs")
    return fires(rule, moments, needs)
