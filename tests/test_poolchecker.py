"""[55], (G3), (G6) of [10]: the checker of papers about pools."""

import random
import unittest

from roomsback.keeping import keeping_paper
from roomsback.losing import losing_paper
from roomsback.judging import two_path, view_table
from roomsback.poolchecker import lets_pool
from roomsback.pools import pool_paper
from tests import machinewords, poolwords, runwords, viewwords
from tests.test_keepchecker import keeping_fault
from tests.test_judgechecker import table_fault
from tests.test_likeness import LEFT, ONE
from tests.test_losschecker import losing_fault
from tests.test_machines import SIZE
from tests.test_paths import paper
from tests.test_pools import POOL, TOGETHER
from tests.test_rules import BAD, not_usable
from tests.values import STRANGE, Case

GOOD = keeping_paper(ONE, LEFT)
LOSE = (view_table(ONE, ()), losing_paper(ONE, ()))


def shows(size, word, rule, *papers):
    """Whether the papers, of which the shapes are known to be right, show this of a rule."""
    if word == "two":
        path = papers[0]
        if viewwords.path_fault(size, rule, path) is not None or not path[1]:
            return False
        before = viewwords.walk(size, rule, path[0], path[1][:-1])[-1]
        return viewwords.in_hands(size, before, path[1][-1])
    if word == "lose":
        return table_fault(size, rule, papers[0]) is None and losing_fault(size, rule, papers[1]) is None
    table, ranks = papers[0]
    return len(table) == len(ranks) and keeping_fault(size, rule, papers[0]) is None


def pool_fault(size, pool, thing):
    """[55]: the word and the place at which three tuples of papers of the right shapes are none, or None."""
    for word, papers in zip(("two", "lose", "good"), thing):
        for k, (rule, *others) in enumerate(papers):
            if not {*rule} <= {*pool} or not shows(size, word, rule, *others):
                return word, k
    two, lose, good = [[{*element[0]} for element in part] for part in thing]
    for k, rule in enumerate(poolwords.rules_of(pool)):
        clauses = {*rule}
        if not (any(other <= clauses for other in two) or any(clauses <= other for other in lose)
                or any(other <= clauses for other in good) and any(clauses <= other for other in good)):
            return "rule", k
    return None


def every_paper(size, pool):
    """A paper for each rule of the pool."""
    two = [(rule, two_path(size, rule)) for rule in poolwords.told(size, pool, "hands")]
    lose = [(rule, view_table(size, rule), losing_paper(size, rule)) for rule in poolwords.told(size, pool, "loses")]
    return two, lose, [(rule, keeping_paper(size, rule)) for rule in poolwords.told(size, pool, "good")]


class PoolPapers(Case):
    def judged(self, size, pool, thing):
        fault = pool_fault(size, pool, thing)
        if fault is None:
            # (G6): as many as judging each rule by itself finds.
            self.same(len(poolwords.told(size, pool, "good")), lets_pool, size, pool, thing)
            self.same(len(poolwords.told(size, pool, "good")), lets_pool, thing=thing, pool=pool, size=size)
        else:
            self.fails(*paper(*fault), lets_pool, size, pool, thing)
        return fault and fault[0]

    def test_examples(self):
        self.same(2, lets_pool, ONE, POOL, pool_paper(ONE, POOL))

    def test_papers_of_somebody_else(self):
        # A paper for each rule, in any order and doubled, or only for so many as are needed.
        chance = random.Random(431)
        words = []
        for size, pool in poolwords.some_pools(50):
            self.assertIs(self.judged(size, pool, pool_paper(size, pool)), None)
            parts = every_paper(size, pool)
            for part in parts:
                chance.shuffle(part)
                part += part[:chance.randrange(2)]
            self.assertIs(self.judged(size, pool, tuple(map(tuple, parts))), None)
            # With some left out it may be enough still.
            kept = tuple(tuple(one for one in part if chance.random() < 0.7) for part in parts)
            words.append(self.judged(size, pool, kept))
        self.assertGreater(words.count("rule"), 10)
        self.assertGreater(words.count(None), 5)

    def test_papers_left_out(self):
        # Of those that pool_paper returns each one is needed, unless the pool has a rule less then.
        missing = 0
        for size, pool in poolwords.some_pools(40):
            thing = pool_paper(size, pool)
            for m, part in enumerate(thing):
                for k in range(len(part)):
                    cut = (*thing[:m], part[:k] + part[k + 1:], *thing[m + 1:])
                    missing += self.judged(size, pool, cut) == "rule"
        self.assertGreater(missing, 60)

    def test_papers_exchanged(self):
        # Papers of another rule, another kind, another size, or spoilt.
        chance = random.Random(433)
        words = []
        for size, pool in poolwords.some_pools(90):
            parts = every_paper(size, pool)
            m = chance.randrange(3)
            if not parts[m]:
                continue
            k, other = chance.randrange(len(parts[m])), chance.randrange(len(parts[m]))
            rule, *papers = parts[m][k]
            way = chance.randrange(4)
            if way == 0:
                papers = parts[m][other][1:]
            elif way == 1:
                rule = chance.choice(poolwords.rules_of(pool))
            elif way == 2:
                rule = tuple(sorted({*rule, ("read", ())}))
            else:
                papers = [self.spoilt(one, chance) for one in papers]
            parts[m][k] = (rule, *papers)
            words.append(self.judged(size, pool, tuple(map(tuple, parts))))
        for word in ("two", "lose", "good", None):
            self.assertGreater(words.count(word), 2, (word, {word: words.count(word) for word in words}))

    def spoilt(self, part, chance):
        """A table without a view, a pair with the second one cut."""
        k = chance.randrange(len(part))
        if len(part) == 2 and isinstance(part[1], tuple) and part[1]:
            return (part[0], part[1][:-1])
        return part[:k] + part[k + 1:]

    def test_shape(self):
        thing = pool_paper(ONE, POOL)
        for bad in [*STRANGE, (), list(thing), thing[:2], (*thing, ()), (list(thing[0]), *thing[1:]), (None, *thing[1:]),
                    (*thing[:2], list(thing[2])), (thing[0], "", thing[2]), (True, (), ())]:
            if not (isinstance(bad, tuple) and len(bad) == 3 and all(isinstance(part, tuple) for part in bad)):
                self.fails(*paper("shape", -1), lets_pool, ONE, POOL, bad)

    def test_each_word_with_its_place(self):
        two, lose, good = pool_paper(SIZE, (("left", ()), ("turned", ())))
        self.assertTrue(two)
        pool = (("left", ()), ("turned", ()))
        for bad in [*STRANGE, (), list(two[0]), two[0][:1], (*two[0], ()), (list(two[0][0]), two[0][1]), (None, two[0][1]),
                    (((("read", ()),)), two[0][1]), ((), two[0][1]), (two[0][0], None), (two[0][0], (two[0][1][0], ()))]:
            self.fails(*paper("two", 0), lets_pool, SIZE, pool, ((bad, *two), (None,), (None,)))
            self.fails(*paper("two", len(two)), lets_pool, SIZE, pool, ((*two, bad), (None,), good))
        element = ((), *LOSE)
        for bad in [*STRANGE, (), list(element), element[:2], (*element, ()), ([], *LOSE), (None, *LOSE), (LEFT, *LOSE),
                    ((("read", ()),), *LOSE), ((), LOSE[1], LOSE[0]), ((), LOSE[0][1:], LOSE[1]), ((), LOSE[0], None),
                    ((), None, LOSE[1]), ((), LOSE[0], (LOSE[1][0], LOSE[1][1][1:])), ((), *GOOD)]:
            self.fails(*paper("lose", 0), lets_pool, ONE, POOL, ((), (bad, element), (None,)))
            self.fails(*paper("lose", 1), lets_pool, ONE, POOL, ((), (element, bad), (None,)))
        element = (LEFT, GOOD)
        for bad in [*STRANGE, (), list(element), element[:1], (*element, ()), (list(LEFT), GOOD), (None, GOOD), ((), GOOD),
                    ((("read", ()),), GOOD), (LEFT, (GOOD[0], GOOD[1][1:])), (LEFT, None), (LEFT, (GOOD[0], (None,) * 7)),
                    (LEFT, *GOOD), (LEFT, GOOD[0])]:
            self.fails(*paper("good", 0), lets_pool, ONE, POOL, ((), (), (bad, element)))
            self.fails(*paper("good", 1), lets_pool, ONE, POOL, ((), (), (element, bad)))

    def test_rules_that_are_missing(self):
        # The rules of POOL are (), left, made, and both; the second one and the last one are good.
        element = ((), *LOSE)
        made = ((("made", ()),), view_table(ONE, (("made", ()),)), losing_paper(ONE, (("made", ()),)))
        both = (POOL, keeping_paper(ONE, POOL))
        for k, thing in [(0, ((), (), ())), (1, ((), (element,), ())), (2, ((), (element,), ((LEFT, GOOD),))),
                         (1, ((), (made,), (both,))), (3, ((), (made,), ((LEFT, GOOD),))), (0, ((), (), ((LEFT, GOOD), both)))]:
            self.fails(*paper("rule", k), lets_pool, ONE, POOL, thing)
        self.same(2, lets_pool, ONE, POOL, ((), (made,), ((LEFT, GOOD), both)))
        self.same(2, lets_pool, ONE, POOL, ((), (made, element), (both, (LEFT, GOOD), both)))
        # What is good and lies in a pool of fewer rules.
        self.same(0, lets_pool, ONE, (), ((), (element,), ()))
        self.fails(*paper("good", 0), lets_pool, ONE, (("made", ()),), ((), (made,), ((LEFT, GOOD),)))

    def test_another_pool_or_size(self):
        thing = pool_paper(SIZE, TOGETHER)
        self.assertIs(self.judged(SIZE, TOGETHER, thing), None)
        for pool in [TOGETHER[:1], TOGETHER[1:], (*TOGETHER, ("turned", ("name", "picture", "reader"))),
                     (("gone", machinewords.NEEDS), *TOGETHER)]:
            self.judged(SIZE, pool, thing)
        for size in poolwords.SIZES:
            self.judged(size, TOGETHER, thing)
            self.judged(size, runwords.FULL[1:4], pool_paper(size, runwords.FULL[1:4]))

    def test_wrong_arguments(self):
        for thing in STRANGE:
            self.fails(*not_usable("size"), lets_pool, thing, thing, thing)
            self.fails(*not_usable("size"), lets_pool, thing=None, pool=None, size=thing)
        for thing in BAD:
            self.fails(*not_usable("pool"), lets_pool, SIZE, thing, None)
            self.fails(*not_usable("pool"), lets_pool, thing=None, pool=thing, size=SIZE)


if __name__ == "__main__":
    unittest.main()
