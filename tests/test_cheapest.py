"""[56]: the good rules of a pool that cost least."""

import random
import unittest

from roomsback.cheapest import cheapest_good, least_cost
from tests import machinewords, poolwords
from tests.test_likeness import LEFT, ONE
from tests.test_machines import SIZE
from tests.test_pools import POOL
from tests.test_rules import BAD, not_usable
from tests.values import STRANGE, Case

GREAT = 10 ** 60 - 1


class Cheapest(Case):
    def judged(self, size, pool, costs):
        """All good rules of the pool, with what they cost, one by one."""
        sums = {rule: sum(cost for clause, cost in zip(pool, costs) if clause in rule)
                for rule in poolwords.told(size, pool, "good")}
        least = min(sums.values(), default=None)
        self.same(least, least_cost, size, pool, costs)
        self.same(least, least_cost, costs=costs, pool=pool, size=size)
        for rule in (cheapest_good(size, pool, costs), cheapest_good(costs=costs, pool=pool, size=size)):
            if least is None:
                self.assertIs(rule, None)
            else:
                self.assertEqual(sums[rule], least)
                self.assertIs(rule.__class__, tuple)
        return least

    def test_examples(self):
        self.same(3, least_cost, ONE, POOL, (3, 1))
        self.same((("left", ()),), cheapest_good, ONE, POOL, (3, 1))
        self.same(None, least_cost, ONE, POOL[1:], (1,))

    def test_drawn_costs(self):
        chance = random.Random(441)
        found = []
        for size, pool in poolwords.some_pools(70):
            kinds = [[0], [7], [0, 1], [0, 1, 2, 3, 50], [GREAT], [GREAT, GREAT - 1, 1], list(range(100))]
            for some in chance.sample(kinds, 3):
                found.append(self.judged(size, pool, tuple(chance.choice(some) for _ in pool)))
        self.assertGreater(found.count(None), 20)
        self.assertGreater(found.count(0), 10)
        self.assertGreater(len([least for least in found if least is not None and least > GREAT]), 5)

    def test_fewer_clauses_may_cost_more(self):
        # A good rule of one clause, and one of several that is cheaper.
        pool = tuple(sorted([("left", machinewords.NEEDS), ("made", machinewords.NEEDS), ("read", machinewords.NEEDS),
                             ("turned", machinewords.NEEDS)]))
        size = (("a",), 2, 0, False)
        self.assertEqual([len(rule) for rule in poolwords.least(poolwords.told(size, pool, "good"))], [1, 3])
        self.same(9, least_cost, size, pool, (9, 9, 9, 9))
        self.same(pool[:1], cheapest_good, size, pool, (9, 9, 9, 9))
        self.same(3, least_cost, size, pool, (9, 1, 1, 1))
        self.same(pool[1:], cheapest_good, size, pool, (9, 1, 1, 1))
        self.same(0, least_cost, size, pool, (0, 0, 0, 0))
        self.same(3 * GREAT - 1, least_cost, size, pool, (3 * GREAT, GREAT, GREAT - 1, GREAT))

    def test_no_good_rule(self):
        for size, pool in [(SIZE, ()), (SIZE, (("turned", ()),)), (ONE, ())]:
            self.same(None, least_cost, size, pool, (5,) * len(pool))
            self.same(None, cheapest_good, size, pool, (5,) * len(pool))

    def test_wrong_arguments(self):
        for call in (least_cost, cheapest_good):
            for thing in STRANGE:
                self.fails(*not_usable("size"), call, thing, thing, thing)
                self.fails(*not_usable("size"), call, costs=None, pool=None, size=thing)
            for thing in BAD:
                self.fails(*not_usable("pool"), call, SIZE, thing, thing)
                self.fails(*not_usable("pool"), call, costs=None, pool=thing, size=SIZE)
                # No tuple of two numbers; also where no rule is good.
                self.fails(*not_usable("costs"), call, ONE, POOL, thing)
                self.fails(*not_usable("costs"), call, costs=thing, pool=POOL, size=ONE)
                self.fails(*not_usable("costs"), call, SIZE, (("made", ()), ("turned", ())), thing)
            for thing in [(), (1,), (1, 2, 3), [1, 2], (1, True), (False, 0), (1, -1), (1, None), (1, "1"), (1, (1,)), ((1, 2),),
                          {0: 1, 1: 2}]:
                self.fails(*not_usable("costs"), call, ONE, POOL, thing)
            for thing in [(0,), None, 0, []]:
                self.fails(*not_usable("costs"), call, ONE, (), thing)
        self.same(3, least_cost, ONE, LEFT, (3,))


if __name__ == "__main__":
    unittest.main()
