"""[51], [59]: where two rules part."""

import random
import unittest

from roomsback.judging import is_safe
from roomsback.likeness import are_alike, parting_path
from roomsback.paths import lets_path
from roomsback.rulechanges import full_rule
from tests import machinewords, viewwords
from tests.test_machines import HASTY, SIZE
from tests.test_rules import BAD, not_usable
from tests.values import STRANGE, Case

ONE = (("a",), 1, 0, False)
LEFT = (("left", ()),)


def parting(size, rule, other):
    """The fewest moves behind which two rules part, by a search of all views that both lead to."""
    return viewwords.search(size, rule, lambda view, move, after: after != viewwords.behind(size, other, view, move))[1]


class Likeness(Case):
    def test_examples(self):
        self.same(True, are_alike, ONE, LEFT, (("left", ("name",)),))
        self.same(((("a",), False, True, ()), (("enter", ("make", "a", ())), ("leave",))), parting_path, ONE, LEFT, ())

    def judged(self, size, rule, other):
        """The fewest moves; all that is told agrees with the search of the tests, also the other way round."""
        least = parting(size, rule, other)
        self.same(least is None, are_alike, size, rule, other)
        self.same(least is None, are_alike, other=rule, rule=other, size=size)
        for first, second in ((rule, other), (other, rule)):
            path = parting_path(size, first, second)
            if least is None:
                self.assertIs(path, None)
                continue
            self.assertEqual(len(path[1]), least)
            self.same(least, lets_path, size, first, path)
            self.same(least, lets_path, size, second, path)
            views = [viewwords.walk(size, one, *path) for one in (first, second)]
            self.assertEqual([one[1] for one in views[0][:-1]], [one[1] for one in views[1][:-1]])
            self.assertNotEqual(views[0][-1][1], views[1][-1][1])
        return least

    def pairs(self, many, chance):
        """Pairs of rules, of which many are nearly equal."""
        found = []
        for rule in viewwords.some_rules(many, chance):
            changed = list(rule)
            if changed and chance.random() < 0.6:
                moment, tests = changed.pop(chance.randrange(len(changed)))
                tests = {*tests} ^ {chance.choice(machinewords.NEEDS)}
                changed.append((moment, tuple(sorted(tests))))
            else:
                changed.append((chance.choice(machinewords.MOMENTS), tuple(machinewords.NEEDS[:chance.randrange(5)])))
            found.append((rule, tuple(sorted(set(changed)))))
        return found + [(rule, other) for rule, other in zip(viewwords.some_rules(4, chance)[2:], ((), full_rule()))]

    def test_drawn_rules(self):
        chance = random.Random(221)
        found = []
        for size in viewwords.SMALL:
            found += [self.judged(size, *pair) for pair in self.pairs(16, chance)]
        for size in viewwords.WIDE:
            found += [self.judged(size, *pair) for pair in self.pairs(5, chance)]
        self.assertGreater(found.count(None), 15)
        self.assertGreater(len(found) - found.count(None), 60)
        self.assertGreater(max(least for least in found if least is not None), 4)

    def test_equal_rules(self):
        chance = random.Random(222)
        for rule in [(), full_rule(), *viewwords.some_rules(10, chance)]:
            self.same(True, are_alike, SIZE, rule, rule)
            self.same(None, parting_path, SIZE, rule, rule)

    def test_last_move_may_be_in_two_hands(self):
        # They part where the room is turned while it has a name and is in a picture: with one name at a take alone.
        size = (("a",), 3, 1, False)
        rule = (("made", ()), ("turned", ()))
        other = (("made", ()), ("turned", ("name",)), ("turned", ("picture",)))
        self.assertEqual(self.judged(size, rule, other), 4)
        path = parting_path(size, rule, other)
        before = viewwords.walk(size, rule, path[0], path[1][:-1])[-1]
        self.assertTrue(viewwords.in_hands(size, before, path[1][-1]))

    def test_no_way_on_behind_two_hands(self):
        # Two rules that would part behind a take in two hands alone are alike.
        chance = random.Random(223)
        size = (("a", "b"), 2, 0, False)
        seen = 0
        for rule, other in self.pairs(150, chance):
            if parting(size, rule, other) is None and rule != other and not is_safe(size, rule):
                seen += 1
                self.same(None, parting_path, size, rule, other)
        self.assertGreater(seen, 0)

    def test_alike_rules_are_safe_together(self):
        # [59]
        chance = random.Random(224)
        seen = 0
        for rule, other in self.pairs(80, chance):
            if are_alike(SIZE, rule, other):
                seen += 1
                self.assertIs(is_safe(SIZE, rule), is_safe(SIZE, other))
        self.assertGreater(seen, 5)

    def test_wrong_arguments(self):
        for call in (are_alike, parting_path):
            for thing in STRANGE:
                self.fails(*not_usable("size"), call, thing, thing, thing)
                self.fails(*not_usable("size"), call, other=None, rule=None, size=thing)
            for thing in BAD:
                self.fails(*not_usable("rule"), call, SIZE, thing, thing)
                self.fails(*not_usable("rule"), call, other=None, rule=thing, size=SIZE)
                self.fails(*not_usable("other"), call, SIZE, HASTY, thing)
                self.fails(*not_usable("other"), call, other=thing, rule=(), size=ONE)


if __name__ == "__main__":
    unittest.main()
