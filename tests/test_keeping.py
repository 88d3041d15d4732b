"""[49], [59]: rules that lose nothing, and the ranks that show it."""

import random
import unittest

from roomsback.judging import view_table
from roomsback.keeping import keeping_paper, loses_none
from roomsback.losing import late_path, losing_paper
from roomsback.likeness import are_alike
from roomsback.rulechanges import full_rule
from tests import latewords, machinewords, viewwords
from tests.test_likeness import LEFT, ONE
from tests.test_losing import SIZES, losing_rules
from tests.test_machines import HASTY, SIZE
from tests.test_rules import BAD, not_usable
from tests.values import STRANGE, Case

FULL = full_rule()


def rank_fault(size, rule, table, ranks):
    """[50]: the place of the first rank that is not as it should be, None if all are."""
    known = dict(zip(table, ranks))
    for k, (view, rank) in enumerate(zip(table, ranks)):
        if rank is not None and not (rank.__class__ is int and rank >= 0):
            return k
        if not latewords.is_late(size, view):
            continue
        if rank is None:
            return k
        ways = [viewwords.behind(size, rule, view, move) for move in viewwords.moves(size, view)]
        lesser = [known[after] for after in ways if latewords.is_late(size, after) and known[after].__class__ is int]
        if not any(after[1] for after in ways) and not any(0 <= other < rank for other in lesser):
            return k
    return None


def good_rules(chance):
    """Rules of which many are good, though rooms are late by them."""
    found = [FULL, FULL[:3] + FULL[4:], FULL[1:], FULL[:2] + FULL[3:], FULL[:1] + FULL[2:]]
    for _ in range(3):
        clauses = [clause for clause in FULL if clause[0] != "left" and chance.random() < 0.6]
        found.append(tuple(sorted([*clauses, ("left", machinewords.NEEDS)])))
    return found + viewwords.some_rules(3, chance) + losing_rules(2, chance)


class Keeping(Case):
    def test_examples(self):
        self.same(True, loses_none, ONE, LEFT)
        self.same(False, loses_none, ONE, ())
        self.same(None, keeping_paper, ONE, ())
        table, ranks = keeping_paper(ONE, LEFT)
        self.assertEqual((len(table), rank_fault(ONE, LEFT, table, ranks)), (7, None))

    def judged(self, size, rule):
        verdict = latewords.judged(size, rule)
        loses = latewords.losing(size, rule) is not None
        self.same(not loses, loses_none, size, rule)
        self.assertIs(losing_paper(size, rule) is None, not loses)
        paper = keeping_paper(size, rule)
        if verdict != "good":
            self.assertIs(paper, None)
            return verdict, 0
        table, ranks = paper
        self.assertEqual(repr(table), repr(tuple(sorted(viewwords.search(size, rule)[0]))))
        self.assertEqual(table, view_table(size, rule))
        self.assertIs(ranks.__class__, tuple)
        self.assertEqual(len(ranks), len(table))
        self.assertIs(rank_fault(size, rule, table, ranks), None)
        return verdict, sum(latewords.is_late(size, view) for view in table)

    def test_beside_a_search_of_all_views(self):
        chance = random.Random(331)
        found = [self.judged(size, rule) for size in SIZES for rule in [(), *good_rules(chance)]]
        verdicts = [verdict for verdict, _ in found]
        for verdict in ("hands", "loses", "good"):
            self.assertGreater(verdicts.count(verdict), 15, verdict)
        self.assertGreater(sum(late > 3 for _, late in found), 10)

    def test_a_rule_that_is_not_safe_may_lose_nothing(self):
        # loses_none asks only for rooms that are lost, keeping_paper for both.
        rule = tuple(sorted([*FULL, ("turned", ())]))
        self.assertEqual(self.judged(SIZE, rule), ("hands", 0))
        self.same(True, loses_none, SIZE, rule)
        self.same(None, keeping_paper, SIZE, rule)
        self.same(None, keeping_paper, rule=rule, size=SIZE)
        self.same(False, loses_none, rule=(), size=SIZE)

    def test_never_late_loses_nothing(self):
        # [59]
        chance = random.Random(332)
        for size in SIZES:
            for rule in [FULL, *viewwords.some_rules(8, chance)]:
                if late_path(size, rule) is None:
                    self.same(True, loses_none, size, rule)

    def test_alike_rules_lose_nothing_together(self):
        # [59]
        chance = random.Random(333)
        alike = 0
        for size in viewwords.SMALL:
            rules = good_rules(chance)
            for rule in rules:
                for other in rules:
                    if rule != other and are_alike(size, rule, other):
                        alike += 1
                        self.assertIs(loses_none(size, rule), loses_none(size, other))
        self.assertGreater(alike, 10)

    def test_further_clauses_keep_what_is_good(self):
        # (G3): of two safe rules, the one with all clauses of the other one loses nothing if this doesn't.
        chance = random.Random(334)
        good = 0
        for size in viewwords.SMALL:
            for rule in good_rules(chance):
                if keeping_paper(size, rule) is None:
                    continue
                for clause in FULL:
                    more = tuple(sorted({*rule, clause}))
                    good += more != rule
                    self.assertIsNotNone(keeping_paper(size, more))
        self.assertGreater(good, 40)

    def test_wrong_arguments(self):
        for call in (keeping_paper, loses_none):
            for thing in STRANGE:
                self.fails(*not_usable("size"), call, thing, thing)
                self.fails(*not_usable("size"), call, rule=None, size=thing)
            for thing in BAD:
                self.fails(*not_usable("rule"), call, SIZE, thing)
                self.fails(*not_usable("rule"), call, rule=thing, size=SIZE)
        self.fails(*not_usable("rule"), keeping_paper, SIZE, list(HASTY))


if __name__ == "__main__":
    unittest.main()
