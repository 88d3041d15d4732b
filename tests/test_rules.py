"""[11], [13], [15], [16], [17]: the checker, the parts and the changes of rules, and when they fire."""

import itertools
import random
import unittest

from roomsback.errors import InvalidPaper, NotUsable
from roomsback.firing import is_freed
from roomsback.rulechanges import common, every_moment, full_rule, joined, tested, with_clause, without_clause
from roomsback.rulechecker import lets_rule
from roomsback.ruleparts import clauses_at, moments_in, tests_in
from tests.test_kinds import CLAUSES, MOMENTS, NEEDS, SETS
from tests.values import STRANGE, Case

RULE = (("gone", ("name", "picture", "reader")), ("left", ()))
BAD = [thing for thing in STRANGE if thing != ()]


def some_rules(many, seed):
    """Rules of zero to twenty clauses."""
    chance = random.Random(seed)
    return [tuple(sorted(chance.sample(CLAUSES, chance.randrange(20)))) for _ in range(many)]


def not_usable(word):
    return NotUsable, {"word": word, "at": -1}


class Checker(Case):
    def test_examples(self):
        self.same(2, lets_rule, RULE)
        self.fails(InvalidPaper, {"word": "order", "at": 1}, lets_rule, (("left", ()), ("gone", ()), None))

    def test_rules(self):
        self.same(0, lets_rule, ())
        self.same(96, lets_rule, tuple(sorted(CLAUSES)))
        for rule in some_rules(50, 1):
            self.same(len(rule), lets_rule, thing=rule)

    def test_shape(self):
        for thing in (None, True, 1, "left", [], [("left", ())], list(RULE)):
            self.fails(InvalidPaper, {"word": "shape", "at": -1}, lets_rule, thing)

    def test_clause_and_order_come_element_by_element(self):
        for thing in STRANGE:
            self.fails(InvalidPaper, {"word": "clause", "at": 0}, lets_rule, (thing, ("left", ())))
            self.fails(InvalidPaper, {"word": "clause", "at": 2}, lets_rule, (*RULE, thing, RULE[0]))
        self.fails(InvalidPaper, {"word": "order", "at": 2}, lets_rule, (*RULE, RULE[1]))
        self.fails(InvalidPaper, {"word": "order", "at": 2}, lets_rule, (*RULE, RULE[0], None))
        self.fails(InvalidPaper, {"word": "clause", "at": 1}, lets_rule, (RULE[1], None, RULE[0]))
        self.fails(InvalidPaper, {"word": "order", "at": 1}, lets_rule, (("left", ("reader",)), ("left", ("name",))))


class Parts(Case):
    def test_examples(self):
        self.same((("left", ()),), clauses_at, RULE, "left")
        self.same(("gone", "left"), moments_in, RULE)
        self.same(("name", "picture", "reader"), tests_in, RULE)

    def test_many(self):
        for rule in [(), full_rule(), *some_rules(60, 2)]:
            self.same(tuple(sorted(set(clause[0] for clause in rule))), moments_in, rule)
            self.same(tuple(sorted(set(sum([clause[1] for clause in rule], ())))), tests_in, rule)
            for moment in MOMENTS:
                expected = tuple(clause for clause in rule if clause[0] == moment)
                self.same(expected, clauses_at, moment=moment, rule=rule)

    def test_wrong_arguments(self):
        for thing in BAD:
            self.fails(*not_usable("rule"), clauses_at, thing, None)
            self.fails(*not_usable("rule"), clauses_at, moment=None, rule=thing)
            self.fails(*not_usable("moment"), clauses_at, RULE, thing)
            self.fails(*not_usable("rule"), moments_in, thing)
            self.fails(*not_usable("rule"), tests_in, thing)


class Changes(Case):
    def test_examples(self):
        self.assertEqual(len(full_rule()), 6)
        self.same(("gone", ()), lambda: every_moment(())[0])
        self.same((RULE[0], ("left", ("name",))), tested, RULE, "name", moment="left")
        self.same((("left", ("name",)),), tested, (("left", ()), ("left", ("name",))), "name")

    def test_with_and_without(self):
        for rule in some_rules(30, 3):
            for clause in CLAUSES:
                if clause in rule:
                    self.fails(*not_usable("clause"), with_clause, rule, clause)
                    self.same(tuple(c for c in rule if c != clause), without_clause, rule, clause)
                else:
                    self.same(tuple(sorted((*rule, clause))), with_clause, clause=clause, rule=rule)
                    self.fails(*not_usable("clause"), without_clause, clause=clause, rule=rule)

    def test_joined_and_common(self):
        for rule, other in zip(some_rules(60, 4), some_rules(60, 5)):
            both = tuple(sorted(set(rule) | set(other)))
            shared = tuple(sorted(set(rule) & set(other)))
            for first, second in ((rule, other), (other, rule)):
                self.same(both, joined, first, second)
                self.same(shared, common, first, second)
            self.same(rule, joined, rule, rule)
            self.same(rule, common, other=rule, rule=rule)

    def test_tested(self):
        for rule in some_rules(40, 6):
            for need, moment in itertools.product(NEEDS, (None, *MOMENTS)):
                changed = set()
                for clause in rule:
                    more = tuple(sorted({*clause[1], need}))
                    changed.add((clause[0], more) if moment in (None, clause[0]) else clause)
                self.same(tuple(sorted(changed)), tested, rule, need, moment=moment)
                if moment is None:
                    self.same(tuple(sorted(changed)), tested, need=need, rule=rule)

    def test_every_moment(self):
        for tests in SETS:
            self.same(tuple((moment, tests) for moment in MOMENTS), every_moment, tests)
        self.same(every_moment(NEEDS), full_rule)

    def test_wrong_arguments(self):
        for thing in BAD:
            for call in (with_clause, without_clause):
                self.fails(*not_usable("rule"), call, thing, thing)
                self.fails(*not_usable("rule"), call, clause=None, rule=thing)
                self.fails(*not_usable("clause"), call, RULE, thing)
            for call in (joined, common):
                self.fails(*not_usable("rule"), call, thing, thing)
                self.fails(*not_usable("rule"), call, other=None, rule=thing)
                self.fails(*not_usable("other"), call, RULE, thing)
            self.fails(*not_usable("rule"), tested, thing, None, moment=1)
            self.fails(*not_usable("rule"), tested, moment=1, need=None, rule=thing)
            self.fails(*not_usable("need"), tested, RULE, thing, moment=1)
            if thing is not None:
                self.fails(*not_usable("moment"), tested, RULE, "name", moment=thing)
            self.fails(*not_usable("tests"), every_moment, thing)

    def test_moment_goes_by_name_only(self):
        with self.assertRaises(TypeError):
            tested(RULE, "name", "left")


class Firing(Case):
    def test_examples(self):
        self.same(True, is_freed, RULE, ("gone",), ("maker",))
        self.same(True, is_freed, RULE, ("gone", "left"), ("name",))
        self.same(False, is_freed, RULE, ("made",), ())

    def test_single_clauses(self):
        moment_sets = [moments for many in range(7) for moments in itertools.combinations(MOMENTS, many)]
        for moment, tests in CLAUSES:
            for moments in moment_sets:
                for needs in SETS:
                    expected = moment in moments and not set(tests) & set(needs)
                    self.assertIs(is_freed(((moment, tests),), moments, needs), expected)

    def test_some_clause_is_enough(self):
        for rule in [(), *some_rules(40, 7)]:
            for moments in [(), ("gone",), ("left", "read"), MOMENTS]:
                for needs in SETS:
                    expected = any(is_freed((clause,), moments, needs) for clause in rule)
                    self.same(expected, is_freed, needs=needs, moments=moments, rule=rule)

    def test_wrong_arguments(self):
        for thing in BAD:
            self.fails(*not_usable("rule"), is_freed, thing, None, None)
            self.fails(*not_usable("rule"), is_freed, needs=None, moments=None, rule=thing)
            self.fails(*not_usable("moments"), is_freed, RULE, thing, None)
            self.fails(*not_usable("needs"), is_freed, RULE, ("left",), thing)
        for moments in (("left", "gone"), ("left", "left"), ("name",), "left", ["left"], (True,)):
            self.fails(*not_usable("moments"), is_freed, RULE, moments, ())
        for needs in (("name", "maker"), ("name", "name"), ("left",), "name", ["name"], (1,)):
            self.fails(*not_usable("needs"), is_freed, RULE, (), needs)

    def test_further_tests_give_back_no_more(self):
        for rule in some_rules(20, 8):
            for moments, needs, need in itertools.product([("gone",), ("left", "turned")], SETS, NEEDS):
                narrow = is_freed(tested(rule, need), moments, needs)
                self.assertFalse(narrow and not is_freed(rule, moments, needs))
                self.assertFalse(narrow and need in needs)


if __name__ == "__main__":
    unittest.main()
