"""The good rules of a pool that cost least."""

from roomsback.demands import demand
from roomsback.kinds import is_number, is_rule, is_size
from roomsback.pools import least_good


def are_costs(pool, thing):
    """Tell whether any value is a tuple of numbers, one for each clause of the pool."""
    return isinstance(thing, tuple) and len(thing) == len(pool) and all([is_number(cost) for cost in thing])


def cost_of(rule, pool, costs):
    """Return the sum of the costs of the clauses of a rule of the pool."""
    return sum([cost for clause, cost in zip(pool, costs) if clause in rule])


def cheapest_good(size, pool, costs):
    """Return a good rule of the pool with the least cost, None if there is no good one."""
    demand(is_size(size), "size")
    demand(is_rule(pool), "pool")
    demand(are_costs(pool, costs), "costs")
    best = None
    # No clause costs less than nothing, so there is a cheapest rule among the least ones.
    for rule in least_good(size, pool):
        if best is None or cost_of(rule, pool, costs) < cost_of(best, pool, costs):
            best = rule
    return best


def least_cost(size, pool, costs):
    """Return the least cost of a good rule of the pool, None if there is none."""
    rule = cheapest_good(size, pool, costs)
    return None if rule is None else cost_of(rule, pool, costs)
