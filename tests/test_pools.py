"""[53], [54], [59], (G3) of [10]: the good rules of pools, and papers about them."""

import random
import unittest

from roomsback.judgechecker import lets_table, lets_two
from roomsback.judging import is_safe, view_table
from roomsback.keepchecker import lets_keeping
from roomsback.keeping import loses_none
from roomsback.losschecker import lets_losing
from roomsback.poolchecker import lets_pool
from roomsback.pools import are_good, greatest_safe, least_good, pool_paper
from tests import machinewords, poolwords, runwords
from tests.test_likeness import LEFT, ONE
from tests.test_machines import SIZE
from tests.test_rules import BAD, not_usable
from tests.values import STRANGE, Case

POOL = (("left", ()), ("made", ()))
# Where a name is never copied, each clause alone is safe. Together one gives a room back, which is taken anew, and
# then the other one gives it back behind a step that turned it before.
TOGETHER = (("left", ()), ("turned", machinewords.NEEDS))


class Pools(Case):
    def test_examples(self):
        self.same((POOL,), greatest_safe, ONE, POOL)
        self.same(((("left", ()),),), least_good, ONE, POOL)
        self.assertEqual(list(are_good(ONE, POOL)), [LEFT, POOL])
        self.same(2, lets_pool, ONE, POOL, pool_paper(ONE, POOL))

    def judged(self, size, pool):
        good = poolwords.told(size, pool, "good")
        safe = poolwords.told(size, pool, "good", "loses")
        self.assertEqual(list(are_good(size, pool)), good)
        self.assertEqual(list(are_good(pool=pool, size=size)), good)
        self.same(poolwords.greatest(safe), greatest_safe, size, pool)
        self.same(poolwords.greatest(safe), greatest_safe, pool=pool, size=size)
        self.same(poolwords.least(good), least_good, size, pool)
        self.same(poolwords.least(good), least_good, pool=pool, size=size)
        self.papers(size, pool)
        # [59]: between a least good one and a greatest safe one all are good, and all good ones lie so.
        for rule in poolwords.rules_of(pool):
            between = (any({*least} <= {*rule} for least in poolwords.least(good))
                       and any({*rule} <= {*most} for most in poolwords.greatest(safe)))
            self.assertIs(between, rule in good)
        return len(good)

    def papers(self, size, pool):
        paper = pool_paper(size, pool)
        self.assertEqual((paper.__class__, [part.__class__ for part in paper]), (tuple, [tuple] * 3))
        two, lose, good = paper
        rules = poolwords.rules_of(pool)
        for rule, path in two:
            self.assertIn(rule, rules)
            self.same(len(path[1]), lets_two, size, rule, path)
        for rule, table, other in lose:
            self.assertIn(rule, rules)
            self.assertEqual(table, view_table(size, rule))
            self.same(len(table), lets_table, size, rule, table)
            self.same(len(other[0][1]), lets_losing, size, rule, other)
        for rule, other in good:
            self.assertIn(rule, rules)
            self.assertEqual(other[0], view_table(size, rule))
            self.same(len(other[0]), lets_keeping, size, rule, other)
        for rule in rules:
            ways = [any({*other[0]} <= {*rule} for other in two), any({*rule} <= {*other[0]} for other in lose),
                    any({*other[0]} <= {*rule} for other in good) and any({*rule} <= {*other[0]} for other in good)]
            self.assertEqual(ways, [poolwords.judged(size, rule) == word for word in ("hands", "loses", "good")])
        self.same(len(poolwords.told(size, pool, "good")), lets_pool, size, pool, paper)

    def test_beside_judging_one_by_one(self):
        many = [self.judged(size, pool) for size, pool in poolwords.some_pools(130)]
        self.assertGreater(many.count(0), 20)
        self.assertGreater(len([found for found in many if found > 1]), 20)

    def test_safe_alone_and_not_together(self):
        for size in [(("a",), 2, 1, True), (("a", "b"), 2, 0, False), (("a", "b"), 2, 2, False)]:
            for pool in [TOGETHER, (*TOGETHER, ("turned", ("maker", "picture", "reader"))),
                         (("gone", machinewords.NEEDS), *TOGETHER)]:
                self.assertEqual({poolwords.judged(size, (clause,)) for clause in pool} & {"hands"}, set())
                self.assertEqual(poolwords.judged(size, pool), "hands")
                self.judged(size, pool)
            self.same(tuple((clause,) for clause in TOGETHER), greatest_safe, size, TOGETHER)
            self.assertEqual([rule for rule, _ in pool_paper(size, TOGETHER)[0]], [TOGETHER])

    def test_no_good_rule(self):
        for size, pool in [(ONE, ()), (SIZE, ()), (SIZE, (("turned", ()),)), (ONE, (("made", ()),))]:
            self.same((), least_good, size, pool)
            self.assertEqual(list(are_good(size, pool)), [])
            two, lose, good = pool_paper(size, pool)
            self.assertEqual(good, ())
            self.assertEqual(self.judged(size, pool), 0)
        self.same(((),), greatest_safe, SIZE, (("turned", ()),))

    def test_least_of_unlike_sizes(self):
        # A set is ascending as Python sorts, not by the number of clauses.
        pool = tuple(sorted([*runwords.FULL[1:5], ("left", ())]))
        chance = random.Random(422)
        for size in poolwords.SIZES:
            self.judged(size, pool)
            self.judged(size, tuple(sorted(chance.sample(runwords.FULL, 5))))

    def test_less_is_safe_and_more_is_kept(self):
        # (G3)
        for size, pool in poolwords.some_pools(40):
            rules = poolwords.rules_of(pool)
            safe = {rule: is_safe(size, rule) for rule in rules}
            for rule in rules:
                for other in rules:
                    if {*rule} <= {*other} and safe[other]:
                        self.assertIs(safe[rule], True)
                        self.assertTrue(loses_none(size, other) or not loses_none(size, rule))

    def test_somewhat_beyond_the_limit(self):
        pool = (*runwords.FULL[:4], ("read", ("name",)), *runwords.FULL[4:])
        size = (("a", "b", "c"), 2, 1, True)
        self.same(len(list(are_good(size, pool))), lets_pool, size, pool, pool_paper(size, pool))

    def test_a_generator(self):
        rules = are_good(ONE, POOL)
        self.assertEqual(next(rules), LEFT)
        self.assertEqual(list(rules), [POOL])
        # Errors are raised when the first one is asked for.
        rules = are_good(None, None)
        self.fails(*not_usable("size"), next, rules)
        rules = are_good(SIZE, None)
        self.fails(*not_usable("pool"), next, rules)

    def test_wrong_arguments(self):
        for call in (greatest_safe, least_good, pool_paper, lambda size, pool: next(are_good(size, pool))):
            for thing in STRANGE:
                self.fails(*not_usable("size"), call, thing, thing)
                self.fails(*not_usable("size"), call, pool=None, size=thing)
            for thing in BAD:
                self.fails(*not_usable("pool"), call, SIZE, thing)
                self.fails(*not_usable("pool"), call, pool=thing, size=SIZE)


if __name__ == "__main__":
    unittest.main()
