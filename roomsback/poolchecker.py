"""The checker of papers about pools."""

from roomsback.demands import demand
from roomsback.errors import InvalidPaper
from roomsback.judgechecker import lets_table, lets_two
from roomsback.keepchecker import lets_keeping
from roomsback.kinds import is_rule, is_size
from roomsback.losschecker import lets_losing
from roomsback.pools import has_one_in, lies_in, lies_in_one
from roomsback.steps import subsets_of


def is_let(check, size, rule, thing):
    """Tell whether a checker accepts any value for a rule."""
    try:
        check(size, rule, thing)
    except InvalidPaper:
        return False
    return True


def is_about(pool, thing, many):
    """Tell whether any value is a tuple of so many elements, of which the first one is a rule of the pool."""
    if not isinstance(thing, tuple) or len(thing) != many:
        return False
    return is_rule(thing[0]) and lies_in(thing[0], pool)


def is_two(size, pool, thing):
    """Tell whether any value shows that a rule of the pool is not safe."""
    return is_about(pool, thing, 2) and is_let(lets_two, size, thing[0], thing[1])


def is_lose(size, pool, thing):
    """Tell whether any value shows that a rule of the pool is safe and loses a room."""
    if not is_about(pool, thing, 3):
        return False
    rule, table, paper = thing
    return is_let(lets_table, size, rule, table) and is_let(lets_losing, size, rule, paper)


def is_good(size, pool, thing):
    """Tell whether any value shows that a rule of the pool is good."""
    return is_about(pool, thing, 2) and is_let(lets_keeping, size, thing[0], thing[1])


def check_papers(size, pool, two, lose, good):
    """Refuse the first paper that does not show what it should."""
    for k, paper in enumerate(two):
        if not is_two(size, pool, paper):
            raise InvalidPaper("two", k)
    for k, paper in enumerate(lose):
        if not is_lose(size, pool, paper):
            raise InvalidPaper("lose", k)
    for k, paper in enumerate(good):
        if not is_good(size, pool, paper):
            raise InvalidPaper("good", k)


def lets_pool(size, pool, thing):
    """Return how many rules of the pool are good, or say why this value does not show it."""
    demand(is_size(size), "size")
    demand(is_rule(pool), "pool")
    if not isinstance(thing, tuple) or len(thing) != 3 or not all([isinstance(part, tuple) for part in thing]):
        raise InvalidPaper("shape", -1)
    check_papers(size, pool, *thing)
    hands, loses, good = [[paper[0] for paper in part] for part in thing]
    many = 0
    for k, rule in enumerate(subsets_of(pool)):
        if has_one_in(good, rule) and lies_in_one(rule, good):
            many = many + 1
        elif not has_one_in(hands, rule) and not lies_in_one(rule, loses):
            raise InvalidPaper("rule", k)
    return many
