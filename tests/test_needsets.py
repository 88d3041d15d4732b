"""[57], [59]: the tests that rules need to be safe."""

import functools
import itertools
import random
import unittest

from roomsback.judging import is_safe
from roomsback.needsets import fewest_tests, least_tests
from roomsback.rulechanges import every_moment, full_rule
from tests import viewwords
from tests.test_judging import TINY, TOGETHER
from tests.test_kinds import CLAUSES, MOMENTS, NEEDS, SETS
from tests.test_machines import SIZE
from tests.test_rules import BAD, not_usable
from tests.values import STRANGE, Case

PAIR = (("a", "b"), 1, 0, False)
POOL = (("left", ()), ("made", ()))


@functools.cache
def searched(size, rule):
    """Whether a rule is safe, by the search of the tests."""
    return viewwords.judge(size, rule)[1] is None


@functools.cache
def judged(size, rule):
    return is_safe(size, rule)


def with_pairs(rule, pairs):
    """[57]: the rule with the need of each pair added to the tests of its clause."""
    changed = [(moment, tuple(sorted({*tests, *[need for m, need in pairs if m == k]})))
               for k, (moment, tests) in enumerate(rule)]
    return tuple(sorted(set(changed)))


def fewest(size, rule, safe):
    """How few pairs are enough, by trying all of them."""
    every = [(k, need) for k in range(len(rule)) for need in NEEDS]
    return next(many for many in range(len(every) + 1)
                if any(safe(size, with_pairs(rule, pairs)) for pairs in itertools.combinations(every, many)))


class Least(Case):
    def test_examples(self):
        self.same((("name",),), least_tests, PAIR, "made")
        self.same(((),), least_tests, PAIR, "left")

    def test_beside_all_sets(self):
        found = set()
        for size in viewwords.SMALL:
            for moment in MOMENTS:
                safe = [set(tests) for tests in SETS if searched(size, ((moment, tests),))]
                expected = tuple(sorted(tuple(sorted(tests)) for tests in safe
                                        if not any(other < tests for other in safe)))
                found.add(expected)
                self.same(expected, least_tests, size, moment)
                self.same(expected, least_tests, moment=moment, size=size)
        # Some have no tests at all, some one set with several needs, some several sets.
        self.assertIn(((),), found)
        self.assertGreater(max(len(tests) for sets in found for tests in sets), 1)

    def test_wider_sizes(self):
        for size in viewwords.WIDE:
            for moment in MOMENTS:
                safe = [set(tests) for tests in SETS if judged(size, ((moment, tests),))]
                expected = sorted(tuple(sorted(tests)) for tests in safe if not any(other < tests for other in safe))
                self.same(tuple(expected), least_tests, size, moment)

    def test_a_further_need_keeps_it_safe(self):
        # [59]
        for size in viewwords.SMALL:
            for moment, tests in CLAUSES:
                enough = any(set(least) <= set(tests) for least in least_tests(size, moment))
                self.assertIs(enough, judged(size, ((moment, tests),)))

    def test_wrong_arguments(self):
        for thing in STRANGE:
            self.fails(*not_usable("size"), least_tests, thing, thing)
            self.fails(*not_usable("size"), least_tests, moment=None, size=thing)
        for thing in [*STRANGE, (), "name", ("left",), "lefts", ["left"]]:
            self.fails(*not_usable("moment"), least_tests, SIZE, thing)
            self.fails(*not_usable("moment"), least_tests, moment=thing, size=TINY)


class Fewest(Case):
    def enough(self, size, rule, safe):
        """How many pairs there are; they are as few as there can be."""
        pairs = fewest_tests(size, rule)
        self.assertIs(pairs.__class__, tuple)
        self.assertEqual(list(pairs), sorted(set(pairs)))
        for k, need in pairs:
            self.assertIn(need, NEEDS)
            self.assertIn(k, range(len(rule)))
        self.assertTrue(safe(size, with_pairs(rule, pairs)), (size, rule, pairs))
        self.assertEqual(len(pairs), fewest(size, rule, safe), (size, rule, pairs))
        return len(pairs)

    def some_rules(self, many, chance):
        """Rules of up to three clauses with few tests."""
        few = [clause for clause in CLAUSES if len(clause[1]) < 3]
        return [tuple(sorted(chance.sample(few, chance.randrange(1, 4)))) for _ in range(many)]

    def test_examples(self):
        self.same(((1, "name"),), fewest_tests, PAIR, POOL)

    def test_beside_all_pairs_by_the_search_of_the_tests(self):
        chance = random.Random(231)
        found = [self.enough(size, rule, searched) for size in (TINY, PAIR, (("a",), 2, 1, True))
                 for rule in self.some_rules(10, chance)]
        self.assertGreater(max(found), 2)

    def test_beside_all_pairs(self):
        chance = random.Random(232)
        found = [self.enough(size, rule, judged) for size in viewwords.SMALL for rule in self.some_rules(3, chance)]
        self.assertGreater(len(set(found)), 3)
        self.assertGreater(max(found), 4)

    def test_single_clauses(self):
        for size in viewwords.SMALL:
            for moment in MOMENTS:
                least = min(len(tests) for tests in least_tests(size, moment))
                self.assertEqual(len(fewest_tests(size, ((moment, ()),))), least)

    def test_clauses_that_are_not_safe_together(self):
        for size, rule in TOGETHER:
            self.assertGreater(self.enough(size, rule, judged), 0)

    def test_clauses_that_become_equal(self):
        size = (("a", "b"), 2, 0, False)
        for rule in ((("made", ("maker",)), ("made", ("name",))), (("left", ()), ("left", ("name",)), ("left", ("reader",)))):
            self.enough(size, rule, judged)
            self.enough(size, rule, searched)

    def test_safe_rules_need_nothing(self):
        for size in viewwords.SMALL + viewwords.WIDE:
            for rule in ((), full_rule(), full_rule()[:3]):
                self.same((), fewest_tests, size, rule)
                self.same((), fewest_tests, rule=rule, size=size)

    def test_wider_sizes(self):
        # Too many to be tried one by one: but no pair can be left out, and fewer do not make them safe.
        chance = random.Random(233)
        for size in viewwords.WIDE:
            for rule in self.some_rules(3, chance) + [every_moment(())[2:5]]:
                pairs = fewest_tests(size, rule)
                self.assertTrue(judged(size, with_pairs(rule, pairs)))
                for k in range(len(pairs)):
                    self.assertFalse(judged(size, with_pairs(rule, pairs[:k] + pairs[k + 1:])))

    def test_wrong_arguments(self):
        for thing in STRANGE:
            self.fails(*not_usable("size"), fewest_tests, thing, thing)
            self.fails(*not_usable("size"), fewest_tests, rule=None, size=thing)
        for thing in BAD:
            self.fails(*not_usable("rule"), fewest_tests, SIZE, thing)
            self.fails(*not_usable("rule"), fewest_tests, rule=thing, size=TINY)


if __name__ == "__main__":
    unittest.main()
