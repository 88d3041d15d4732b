"""[53] once more: each rule of a pool judged one by one, by the machines of viewwords."""

import itertools
import random

from tests import latewords, machinewords, runwords

SIZES = [(("a",), 1, 0, False), (("a",), 1, 1, False), (("a",), 2, 1, True), (("a", "b"), 1, 1, True),
         (("a", "b"), 2, 0, False), (("x", "y"), 2, 1, True), (("a", "b"), 2, 2, False)]
KEPT = {}


def rules_of(pool):
    """All rules of a pool, by the number of their clauses, and those with equally many ascending."""
    return sorted([rule for many in range(len(pool) + 1) for rule in itertools.combinations(pool, many)],
                  key=lambda rule: (len(rule), rule))


def judged(size, rule):
    """What latewords tells, kept for rules that stand in several pools."""
    if (size, rule) not in KEPT:
        KEPT[size, rule] = latewords.judged(size, rule)
    return KEPT[size, rule]


def told(size, pool, *words):
    """The rules of a pool with one of these verdicts, in order."""
    return [rule for rule in rules_of(pool) if judged(size, rule) in words]


def least(rules):
    return tuple(sorted(rule for rule in rules if not any({*other} < {*rule} for other in rules)))


def greatest(rules):
    return tuple(sorted(rule for rule in rules if not any({*other} > {*rule} for other in rules)))


def a_pool(size, chance):
    """Some pool; clauses with many tests are often safe, alone or together."""
    clauses = set()
    for _ in range(chance.randrange(6)):
        many = chance.choice([0, 1, 2, 3, 3, 4, 4, 4])
        moments = ["left", "gone", *machinewords.MOMENTS] if size[2] else ["left", *machinewords.MOMENTS]
        clauses.add((chance.choice(moments), tuple(sorted(chance.sample(machinewords.NEEDS, many)))))
    return tuple(sorted(clauses))


def some_pools(many):
    """Pairs of a size and a pool: drawn ones, some of the full rule, and those that the document speaks of.

    They are the same each time, for judging them takes long.
    """
    chance = random.Random(421)
    found = [(SIZES[0], (("left", ()), ("made", ()))), (SIZES[3], ()), (SIZES[5], runwords.FULL[1:])]
    for _ in range(many):
        size = chance.choice(SIZES)
        pool = a_pool(size, chance)
        if chance.random() < 0.3:
            pool = tuple(sorted({*chance.sample(runwords.FULL, 4), *pool[:1]}))
        found.append((size, pool))
    return found
