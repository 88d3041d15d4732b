"""[20], [21]: clauses and rules as objects."""

import itertools
import random
import unittest

from roomsback.errors import NotUsable
from roomsback.firing import is_freed
from roomsback.ruleclasses import Clause, Everywhere, Rule, Tested
from roomsback.rulechanges import common, every_moment, full_rule, joined, tested
from roomsback.ruletexts import clause_text, rule_text
from tests.test_kinds import CLAUSES, MOMENTS, NEEDS, SETS
from tests.test_rules import BAD, RULE, not_usable, some_rules
from tests.values import STRANGE, Case

# Objects of the package are as strange as other values wherever they are not asked for.
OBJECTS = [Clause("left"), Clause("gone", "name"), Rule(), Rule(RULE), Everywhere("name"), Tested(RULE, "name"),
           NotUsable("left", -1)]
ANYTHING = [*STRANGE, (), *OBJECTS, (Clause("left"),), [Rule()], ("left", Clause("left"))]


class Clauses(Case):
    def test_examples(self):
        clause = Clause("left", "reader", "name")
        self.assertEqual(clause.pair, ("left", ("name", "reader")))
        self.assertEqual(str(clause - "reader"), "left unless name")
        self.assertIs((clause + "name") == clause, True)
        self.assertIs("name" in clause, True)
        self.assertIs(clause(("left",), ("maker",)), True)

    def test_parts(self):
        for moment in MOMENTS:
            for many in range(5):
                for tests in itertools.permutations(NEEDS, many):
                    clause = Clause(moment, *tests)
                    pair = (moment, tuple(sorted(tests)))
                    self.assertEqual((clause.moment, clause.tests, clause.pair), (*pair, pair))
                    self.assertEqual((len(clause), str(clause)), (len(tests), clause_text(pair)))
                    self.assertIn(pair, CLAUSES)

    def test_wrong_arguments(self):
        for thing in ANYTHING:
            self.fails(*not_usable("moment"), Clause, thing)
            self.fails(*not_usable("moment"), Clause, thing, thing, thing)
            self.fails(NotUsable, {"word": "tests", "at": 0}, Clause, "left", thing)
            self.fails(NotUsable, {"word": "tests", "at": 1}, Clause, "left", "name", thing, "name")
        self.fails(NotUsable, {"word": "tests", "at": 2}, Clause, "left", "name", "maker", "name", "maker", None)
        self.fails(*not_usable("moment"), Clause, moment="name")
        self.assertEqual(Clause(moment="left").pair, ("left", ()))

    def test_plus_and_minus(self):
        for moment, tests in CLAUSES:
            clause = Clause(moment, *tests)
            for need in NEEDS:
                more, less = clause + need, clause - need
                self.assertIs(more.__class__, Clause)
                self.assertIs(less.__class__, Clause)
                self.assertEqual(more.pair, (moment, tuple(sorted({*tests, need}))))
                self.assertEqual(less.pair, (moment, tuple(sorted(set(tests) - {need}))))
                self.assertEqual((more == clause, less == clause), (need in tests, need not in tests))
                self.assertIs(need in clause, need in tests)
            self.assertEqual(clause.pair, (moment, tests))
            same = clause
            same += "name"
            self.assertEqual((clause.pair, same.moment), ((moment, tests), moment))
        for thing in [*ANYTHING, "left", ("name",)]:
            self.fails(*not_usable("need"), lambda: Clause("left") + thing)
            self.fails(*not_usable("need"), lambda: Clause("left", "name") - thing)
            self.assertIs(thing in Clause("left", *NEEDS), False)

    def test_called(self):
        for pair in CLAUSES[::5]:
            clause = Clause(pair[0], *pair[1])
            for moments in [(), ("gone",), ("left", "read"), MOMENTS]:
                for needs in SETS:
                    self.assertIs(clause(needs=needs, moments=moments), is_freed((pair,), moments, needs))
        for thing in ANYTHING:
            if thing != ():
                self.fails(*not_usable("moments"), clause, thing, thing)
                self.fails(*not_usable("moments"), clause, needs=thing, moments=thing)
                self.fails(*not_usable("needs"), clause, (), thing)

    def test_equal(self):
        for first, second in itertools.product(CLAUSES[::3], CLAUSES):
            self.assertIs(Clause(first[0], *first[1]) == Clause(second[0], *second[1]), first == second)
            self.assertIs(Clause(first[0], *first[1]) != Clause(second[0], *second[1]), first != second)
        for thing in [*STRANGE, (), ("left", ()), *OBJECTS[2:]]:
            self.assertIs(Clause("left") == thing, False)
            self.assertIs(thing == Clause("left"), False)

    def test_never_changes(self):
        clause = Clause("left", "name")
        for name in ("moment", "tests", "pair"):
            with self.assertRaises(AttributeError):
                setattr(clause, name, ("gone", ()))
        self.assertEqual(clause.pair, ("left", ("name",)))


class Rules(Case):
    def test_examples(self):
        self.assertEqual((Rule(RULE) - Rule.of(("left", ()))).clauses, (RULE[0],))
        self.assertIs(("left", ()) in Rule(RULE), True)
        self.assertEqual(len(Everywhere("name")), 6)
        self.assertEqual(str(Tested(RULE[1:], "picture")), "left unless picture")

    def test_parts(self):
        self.assertEqual((Rule().clauses, len(Rule()), str(Rule()), list(Rule())), ((), 0, "", []))
        for pairs in [(), full_rule(), *some_rules(40, 31)]:
            rule = Rule(clauses=pairs)
            self.assertEqual((rule.clauses, list(rule), len(rule)), (pairs, list(pairs), len(pairs)))
            self.assertEqual(str(rule), rule_text(pairs))
            for pair in CLAUSES:
                self.assertIs(pair in rule, pair in pairs)
                self.assertIs(Clause(pair[0], *pair[1]) in rule, pair in pairs)
            for moment in MOMENTS:
                clauses = rule[moment]
                self.assertIs(clauses.__class__, tuple)
                self.assertTrue(all(clause.__class__ is Clause for clause in clauses))
                self.assertEqual([clause.pair for clause in clauses], [pair for pair in pairs if pair[0] == moment])
            for moments, needs in itertools.product([(), ("gone",), ("left", "turned"), MOMENTS], SETS):
                self.assertIs(rule(needs=needs, moments=moments), is_freed(pairs, moments, needs))

    def test_wrong_arguments(self):
        rule = Rule(RULE)
        for thing in ANYTHING:
            if thing.__class__ is not tuple or thing != ():
                self.fails(*not_usable("clauses"), Rule, thing)
                self.fails(*not_usable("moments"), rule, thing, thing)
                self.fails(*not_usable("needs"), rule, needs=thing, moments=())
            self.fails(*not_usable("moment"), lambda: rule[thing])
            if not isinstance(thing, Rule):
                for call in (lambda: rule | thing, lambda: rule & thing, lambda: rule - thing):
                    self.fails(*not_usable("other"), call)
                self.fails(*not_usable("other"), rule.lies_in, other=thing)
                self.assertIs(rule == thing, False)
            if not isinstance(thing, Clause):
                self.assertIs(thing in rule, False)
        self.assertIs(OBJECTS[0] in rule, True)
        self.assertIs(OBJECTS[1] in rule, False)

    def test_two_rules(self):
        for first, second in zip(some_rules(80, 32), some_rules(80, 33)):
            for left, right in ((first, second), (first, first), (first[1:], first), (first, first[1:])):
                one, two = Rule(left), Rule(right)
                less = tuple(pair for pair in left if pair not in right)
                for made, expected in ((one | two, joined(left, right)), (one & two, common(left, right)),
                                       (one - two, less)):
                    self.assertIs(made.__class__, Rule)
                    self.assertEqual(made.clauses, expected)
                self.assertIs(one.lies_in(two), set(left) <= set(right))
                self.assertIs(one == two, left == right)
                self.assertEqual((one.clauses, two.clauses), (left, right))

    def test_of(self):
        chance = random.Random(34)
        self.assertEqual(Rule.of().clauses, ())
        for pairs in some_rules(60, 35):
            mixed = [pair if chance.random() < 0.5 else Clause(pair[0], *pair[1]) for pair in pairs]
            chance.shuffle(mixed)
            rule = Rule.of(*mixed)
            self.assertIs(rule.__class__, Rule)
            self.assertEqual(rule.clauses, pairs)
        for thing in ANYTHING:
            if not isinstance(thing, Clause):
                self.fails(NotUsable, {"word": "clauses", "at": 0}, Rule.of, thing)
                self.fails(NotUsable, {"word": "clauses", "at": 2}, Rule.of, *RULE[::-1], thing, RULE[0])
        self.fails(NotUsable, {"word": "clauses", "at": 1}, Rule.of, RULE[0], RULE[0], None)
        self.fails(NotUsable, {"word": "clauses", "at": 2}, Rule.of, Clause("gone"), Clause("left"), Clause("gone"))
        self.fails(NotUsable, {"word": "clauses", "at": 1}, Rule.of, ("left", ()), Clause("left"))
        self.assertEqual(Everywhere("name").of(("left", ())).clauses, (("left", ()),))
        self.assertIs(Tested.of(("left", ())).__class__, Rule)

    def test_never_changes(self):
        rule = Rule(RULE)
        with self.assertRaises(AttributeError):
            rule.clauses = ()
        other = rule
        other |= Rule(full_rule())
        self.assertEqual((rule.clauses, len(other)), (RULE, 8))


class Derived(Case):
    def test_everywhere(self):
        for many in range(5):
            for tests in itertools.permutations(NEEDS, many):
                rule = Everywhere(*tests)
                self.assertEqual((rule.tests, rule.clauses), (tuple(sorted(tests)), every_moment(tuple(sorted(tests)))))
                self.assertTrue(rule == Rule(rule.clauses) and Rule(rule.clauses) == rule)
        for thing in ANYTHING:
            self.fails(NotUsable, {"word": "tests", "at": 0}, Everywhere, thing, thing)
            self.fails(NotUsable, {"word": "tests", "at": 1}, Everywhere, "name", thing, "name")
        self.fails(NotUsable, {"word": "tests", "at": 2}, Everywhere, "reader", "name", "reader", None)

    def test_tested(self):
        for pairs, need in itertools.product(some_rules(30, 36), NEEDS):
            rule = Tested(need=need, rule=pairs)
            self.assertEqual((rule.source, rule.need, rule.clauses), (pairs, need, tested(pairs, need)))
            self.assertIs(rule == Rule(tested(pairs, need)), True)
        for thing in ANYTHING:
            if thing.__class__ is not tuple or thing != ():
                self.fails(*not_usable("rule"), Tested, thing, thing)
                self.fails(*not_usable("rule"), Tested, need=None, rule=thing)
            self.fails(*not_usable("need"), Tested, RULE, thing)

    def test_are_rules(self):
        for rule in (Everywhere("name"), Tested(RULE, "maker")):
            self.assertIsInstance(rule, Rule)
            self.assertEqual((len(rule), list(rule), str(rule)),
                             (len(rule.clauses), list(rule.clauses), rule_text(rule.clauses)))
            for made in (rule | Rule(RULE), rule & rule, rule - Rule(RULE), Rule(RULE) | rule, Rule(RULE) & rule):
                self.assertIs(made.__class__, Rule)
            self.assertIs(rule.lies_in(rule | Rule(RULE)), True)
            self.assertEqual(rule["left"][0].pair in rule, True)
            with self.assertRaises(AttributeError):
                rule.clauses = ()
        for thing in BAD:
            self.fails(*not_usable("moment"), lambda: Everywhere()[thing])

    def test_methods_stand_in_their_classes(self):
        clause = "__init__ moment tests pair __add__ __sub__ __call__ __len__ __contains__ __eq__ __str__".split()
        rule = "__init__ clauses __getitem__ __len__ __iter__ __contains__ __eq__ __str__ __call__".split()
        rule += "__or__ __and__ __sub__ lies_in of".split()
        for kind, names in ((Clause, clause), (Rule, rule), (Everywhere, ["__init__", "tests"]),
                            (Tested, ["__init__", "source", "need"])):
            self.assertEqual([name for name in names if name not in vars(kind)], [])
        self.assertIsInstance(vars(Rule)["of"], staticmethod)


class Consequences(Case):
    def test_more_clauses_give_back_more(self):
        for first, second in zip(some_rules(30, 37), some_rules(30, 38)):
            rule, more = Rule(first), Rule(first) | Rule(second)
            for moments, needs in itertools.product([("gone",), ("left", "turned"), MOMENTS], SETS):
                self.assertFalse(rule(moments, needs) and not more(moments, needs))
                for need in NEEDS:
                    narrow = Tested(first, need)(moments, needs)
                    self.assertFalse(narrow and not rule(moments, needs))
                    self.assertFalse(narrow and need in needs)


if __name__ == "__main__":
    unittest.main()
