"""Pools of clauses, and their good rules."""

from roomsback.demands import demand
from roomsback.judging import is_safe, two_path, view_table
from roomsback.keeping import keeping_paper, loses_none
from roomsback.kinds import is_rule, is_size
from roomsback.losing import losing_paper
from roomsback.steps import subsets_of


def lies_in(rule, other):
    """Tell whether another rule has all clauses of this one."""
    return all([clause in other for clause in rule])


def has_one_in(rules, rule):
    """Tell whether one of these rules lies in a rule."""
    return any([lies_in(other, rule) for other in rules])


def lies_in_one(rule, rules):
    """Tell whether a rule lies in one of these."""
    return any([lies_in(rule, other) for other in rules])


def least_among(rules):
    """Return a list of those of these rules in which none of the others lies."""
    return [rule for rule in rules if not has_one_in([other for other in rules if other != rule], rule)]


def greatest_among(rules):
    """Return a list of those of these rules that lie in none of the others."""
    return [rule for rule in rules if not lies_in_one(rule, [other for other in rules if other != rule])]


def judged_rules(size, pool):
    """Return three lists of rules of the pool: which are not safe, which are and lose a room, and which are good.

    Each list is by the number of clauses, and then ascending.
    """
    hands = []
    loses = []
    good = []
    for rule in subsets_of(pool):
        # A safe rule stays so if clauses are left out, and loses nothing if the one with fewer clauses does not.
        if has_one_in(hands, rule) or not is_safe(size, rule):
            hands.append(rule)
        elif has_one_in(good, rule) or loses_none(size, rule):
            good.append(rule)
        else:
            loses.append(rule)
    return hands, loses, good


def greatest_safe(size, pool):
    """Return the set of the greatest rules of the pool that are safe."""
    demand(is_size(size), "size")
    demand(is_rule(pool), "pool")
    _, loses, good = judged_rules(size, pool)
    return tuple(sorted(greatest_among([*loses, *good])))


def least_good(size, pool):
    """Return the set of the least rules of the pool that are good."""
    demand(is_size(size), "size")
    demand(is_rule(pool), "pool")
    _, _, good = judged_rules(size, pool)
    return tuple(sorted(least_among(good)))


def are_good(size, pool):
    """Yield all good rules of the pool, by the number of their clauses, and then ascending."""
    demand(is_size(size), "size")
    demand(is_rule(pool), "pool")
    _, _, good = judged_rules(size, pool)
    yield from good


def pool_paper(size, pool):
    """Return three tuples that show of each rule of the pool whether it is good."""
    demand(is_size(size), "size")
    demand(is_rule(pool), "pool")
    hands, loses, good = judged_rules(size, pool)
    least = least_among(good)
    ends = [*least, *[rule for rule in greatest_among(good) if rule not in least]]
    two = tuple([(rule, two_path(size, rule)) for rule in least_among(hands)])
    lose = tuple([(rule, view_table(size, rule), losing_paper(size, rule)) for rule in greatest_among(loses)])
    return two, lose, tuple([(rule, keeping_paper(size, rule)) for rule in ends])
