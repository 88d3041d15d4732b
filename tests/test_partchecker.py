"""[52], (G6) of [10]: the checker of paths behind which two rules part."""

import random
import unittest

from roomsback.likeness import are_alike, parting_path
from roomsback.partchecker import lets_parting
from roomsback.rulechanges import every_moment, full_rule
from tests import machinewords, viewwords
from tests.test_likeness import LEFT, ONE
from tests.test_machines import HASTY, SIZE
from tests.test_paths import HELD, NO_STARTS, READ, TWO, changed, paper
from tests.test_rules import BAD, not_usable
from tests.values import STRANGE, Case

START = (("a",), False, True, ())
ENTER = ("enter", ("make", "a", ()))


def parting_fault(size, rule, other, thing):
    """[52]: the word and the place at which a pair of any value and a tuple of moves is no such path, or None."""
    fault = viewwords.path_fault(size, rule, thing)
    if fault is not None:
        return fault
    start, moves = thing
    views = [start, start]
    for k, move in enumerate(moves):
        views = [viewwords.behind(size, one, view, move) for one, view in zip((rule, other), views)]
        parts = views[0][1] != views[1][1]
        if parts and k < len(moves) - 1:
            return "other", k
    return None if moves and parts else ("last", -1)


def nearly(rule, chance):
    """The rule with a clause put in or left out, or with a test more or less."""
    changed_rule = list(rule)
    if changed_rule and chance.random() < 0.6:
        moment, tests = changed_rule.pop(chance.randrange(len(changed_rule)))
        if chance.random() < 0.7:
            changed_rule.append((moment, tuple(sorted({*tests} ^ {chance.choice(machinewords.NEEDS)}))))
    else:
        changed_rule.append((chance.choice(machinewords.MOMENTS), tuple(machinewords.NEEDS[:chance.randrange(5)])))
    return tuple(sorted({*changed_rule}))


class Parting(Case):
    def judged(self, size, rule, other, thing):
        fault = parting_fault(size, rule, other, thing)
        if fault is None:
            self.same(len(thing[1]), lets_parting, size, rule, other, thing)
            # (G6); and it is one of both, so they can be exchanged.
            self.same(len(thing[1]), lets_parting, size, other, rule, thing)
            self.assertFalse(are_alike(size, rule, other))
        else:
            self.fails(*paper(*fault), lets_parting, size, rule, other, thing)
        return fault and fault[0]

    def test_examples(self):
        self.fails(*paper("last", -1), lets_parting, ONE, LEFT, (), (START, (ENTER,)))
        self.same(2, lets_parting, ONE, LEFT, (), parting_path(ONE, LEFT, ()))
        self.same(2, lets_parting, thing=(START, (ENTER, ("leave",))), other=(), rule=LEFT, size=ONE)

    def test_what_parting_path_returns(self):
        chance = random.Random(411)
        some = 0
        for size in viewwords.SMALL + viewwords.WIDE:
            for rule in viewwords.some_rules(8, chance):
                other = nearly(rule, chance)
                path = parting_path(size, rule, other)
                if path is not None:
                    some += 1
                    self.assertIs(self.judged(size, rule, other, path), None)
        self.assertGreater(some, 50)

    def test_drawn_paths(self):
        # Paths that somebody else made need not be least; most go on behind where the rules part.
        chance = random.Random(412)
        words = []
        longer = 0
        for size, rule, path in viewwords.some_paths(1500, 413):
            other = chance.choice([nearly(rule, chance), nearly(rule, chance), machinewords.a_rule(chance)])
            words.append(self.judged(size, rule, other, path))
            if words[-1] == "other":
                k = parting_fault(size, rule, other, path)[1]
                cut = (path[0], path[1][:k + 1])
                words.append(self.judged(size, rule, other, cut))
                longer += k + 1 > len(parting_path(size, rule, other)[1])
        self.assertGreater(longer, 50)
        for word in ("other", "last", None):
            self.assertGreater(words.count(word), 50, word)

    def test_changed_paths(self):
        chance = random.Random(414)
        words = []
        for size, rule, path in viewwords.some_paths(900, 415):
            other = nearly(rule, chance)
            best = parting_path(size, rule, other)
            thing = changed(size, best if best is not None and chance.random() < 0.6 else path, chance)
            rule = chance.choice([rule] * 4 + [(), every_moment(())])
            words.append(self.judged(size, rule, other, thing))
        for word in ("start", "move", "hands", "other", "last", None):
            self.assertGreater(words.count(word), 5, (word, {word: words.count(word) for word in words}))

    def test_each_word(self):
        thing = (START, (ENTER, ("leave",)))
        for bad in [*STRANGE, (), list(thing), (START, [ENTER]), (*thing, ()), thing[:1]]:
            if not (isinstance(bad, tuple) and len(bad) == 2 and isinstance(bad[1], tuple)):
                self.fails(*paper("shape", -1), lets_parting, ONE, LEFT, (), bad)
        for bad in NO_STARTS:
            self.fails(*paper("start", -1), lets_parting, ONE, LEFT, (), (bad, thing[1]))
        for bad in STRANGE:
            self.fails(*paper("move", 1), lets_parting, ONE, LEFT, (), (START, (ENTER, bad, ("leave",))))
        self.fails(*paper("hands", 1), lets_parting, SIZE, HASTY, full_rule(), (HELD, (*TWO[1], READ)))
        self.fails(*paper("other", 0), lets_parting, SIZE, HASTY, full_rule(), TWO)
        self.same(1, lets_parting, SIZE, HASTY, full_rule(), (HELD, (READ,)))
        # It is a path of the first rule; that it goes on by the other one is not asked where they have not parted.
        self.fails(*paper("move", 1), lets_parting, SIZE, full_rule(), HASTY, TWO)
        for rule, other in [(LEFT, LEFT), (LEFT, (("left", ("name",)),)), ((), ())]:
            self.fails(*paper("last", -1), lets_parting, ONE, rule, other, thing)
        self.fails(*paper("last", -1), lets_parting, ONE, LEFT, (), (START, ()))
        # Where they part ahead of the last move, the first place is told.
        long = (START, (ENTER, ("leave",), ("take", ("make", "a", ())), ("run", 0)))
        self.fails(*paper("other", 1), lets_parting, ONE, LEFT, (), long)
        self.fails(*paper("other", 0), lets_parting, ONE, (("left", ()), ("turned", ())), LEFT, long)

    def test_the_last_move_in_two_hands(self):
        size = (("a",), 3, 1, False)
        rule = (("made", ()), ("turned", ()))
        other = (("made", ()), ("turned", ("name",)), ("turned", ("picture",)))
        path = parting_path(size, rule, other)
        before = viewwords.walk(size, rule, path[0], path[1][:-1])[-1]
        self.assertTrue(viewwords.in_hands(size, before, path[1][-1]))
        self.assertIs(self.judged(size, rule, other, path), None)

    def test_wrong_arguments(self):
        for thing in STRANGE:
            self.fails(*not_usable("size"), lets_parting, thing, thing, thing, thing)
            self.fails(*not_usable("size"), lets_parting, thing=None, other=None, rule=None, size=thing)
        for thing in BAD:
            self.fails(*not_usable("rule"), lets_parting, SIZE, thing, thing, thing)
            self.fails(*not_usable("rule"), lets_parting, thing=None, other=None, rule=thing, size=SIZE)
            self.fails(*not_usable("other"), lets_parting, SIZE, HASTY, thing, None)
            self.fails(*not_usable("other"), lets_parting, thing=None, other=thing, rule=(), size=SIZE)


if __name__ == "__main__":
    unittest.main()
