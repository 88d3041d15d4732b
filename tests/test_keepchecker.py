"""[50], (G6) of [10]: the checker of tables with ranks."""

import random
import unittest

from roomsback.keepchecker import lets_keeping
from roomsback.keeping import keeping_paper
from roomsback.rulechanges import every_moment, full_rule
from tests import latewords, machinewords, viewwords
from tests.test_judgechecker import closed, table_fault
from tests.test_keeping import good_rules, rank_fault
from tests.test_likeness import LEFT, ONE
from tests.test_losing import SIZES
from tests.test_machines import HASTY, SIZE
from tests.test_paths import paper
from tests.test_rules import BAD, not_usable
from tests.test_views import NO_VIEWS
from tests.values import STRANGE, Case

TABLE, RANKS = keeping_paper(ONE, LEFT)
LATE = TABLE.index(((), False, True, (("turns",),)))
SMALL = SIZES[:7]


def keeping_fault(size, rule, thing):
    """[50]: the word and the place at which a pair of two tuples of one length is no paper, or None."""
    table, ranks = thing
    fault = table_fault(size, rule, table)
    if fault is None and rank_fault(size, rule, table, ranks) is not None:
        fault = "rank", rank_fault(size, rule, table, ranks)
    return fault


def put(parts, k, part):
    return (*parts[:k], part, *parts[k + 1:])


class Keeping(Case):
    def judged(self, size, rule, thing):
        fault = keeping_fault(size, rule, thing)
        if fault is None:
            self.same(len(thing[0]), lets_keeping, size, rule, thing)
        else:
            self.fails(*paper(*fault), lets_keeping, size, rule, thing)
        return fault and fault[0]

    def test_examples(self):
        self.same(7, lets_keeping, ONE, LEFT, keeping_paper(ONE, LEFT))
        self.same(7, lets_keeping, thing=(TABLE, RANKS), rule=LEFT, size=ONE)

    def test_what_keeping_paper_returns(self):
        chance = random.Random(401)
        some = 0
        for size in SIZES:
            for rule in good_rules(chance):
                thing = keeping_paper(size, rule)
                if thing is not None:
                    some += 1
                    self.same(len(thing[0]), lets_keeping, size, rule, thing)
                    if size in SMALL:
                        self.assertIs(self.judged(size, rule, thing), None)
        self.assertGreater(some, 40)

    def test_papers_of_somebody_else(self):
        # Ranks that are greater than need be, numbers where the room is not late, and views to which no path leads.
        chance = random.Random(402)
        accepted = more = 0
        for size in SMALL:
            for rule in good_rules(chance):
                if keeping_paper(size, rule) is None:
                    continue
                table = set(keeping_paper(size, rule)[0])
                for _ in range(3):
                    views = closed(size, rule, viewwords.a_view(size, chance))
                    if len(views) < 150 and chance.random() < 0.8:
                        table |= views
                table = tuple(sorted(table))
                ranks = self.distances(size, rule, table, chance)
                word = self.judged(size, rule, (table, ranks))
                accepted += word is None
                more += word is None and len(table) > len(keeping_paper(size, rule)[0])
        self.assertGreater(accepted, 15)
        self.assertGreater(more, 2)

    def distances(self, size, rule, table, chance):
        """Ranks that grow by more than one, and any where the room is not late."""
        far = {view: 0 for view in table if view[1]}
        for _ in table:
            for view in table:
                if view not in far and latewords.is_late(size, view):
                    ways = [viewwords.behind(size, rule, view, move) for move in viewwords.moves(size, view)]
                    known = [far[after] for after in ways if after in far]
                    if known:
                        far[view] = min(known) + chance.choice([1, 1, 7, 10 ** 59])
        return tuple(far.get(view, 0) if latewords.is_late(size, view) else chance.choice([None, None, 0, 3, 10 ** 60 - 1])
                     for view in table)

    def test_changed_papers(self):
        chance = random.Random(403)
        words = []
        for size in SMALL:
            for rule in good_rules(chance):
                thing = keeping_paper(size, rule)
                if thing is None:
                    continue
                for _ in range(8):
                    table, ranks = self.spoilt(*thing, chance)
                    judged = chance.choice([rule] * 7 + [(), every_moment(()), full_rule(), machinewords.a_rule(chance)])
                    words.append(self.judged(size, judged, (table, ranks)))
        for word in ("view", "start", "move", "rank", None):
            self.assertGreater(words.count(word), 3, (word, {word: words.count(word) for word in words}))

    def spoilt(self, table, ranks, chance):
        """A view or a rank, or both, exchanged, left out, doubled, or changed."""
        k, other = chance.randrange(len(table)), chance.randrange(len(table))
        way = chance.randrange(8)
        if way == 0:
            return table[:k] + table[k + 1:], ranks[:k] + ranks[k + 1:]
        if way == 1:
            return table[:k] + table[k:k + 1] + table[k:], ranks[:k] + ranks[k:k + 1] + ranks[k:]
        if way == 2:
            return put(table, k, chance.choice(STRANGE)), ranks
        if way == 3:
            return table, put(put(ranks, k, ranks[other]), other, ranks[k])
        late = [k for k, rank in enumerate(ranks) if rank is not None]
        if late and way > 5:
            k = chance.choice(late)
        return table, put(ranks, k, chance.choice([None, 0, 1, 2, 3, 10 ** 60 - 1, True, False, -1, "1", (1,), [1]]))

    def test_ranks_that_are_none(self):
        bad = [thing for thing in STRANGE if thing is not None and thing != 10 ** 60 - 1]
        for k in range(len(TABLE)):
            for thing in bad:
                self.fails(*paper("rank", k), lets_keeping, ONE, LEFT, (TABLE, put(RANKS, k, thing)))
            for thing in (0, 1, 5, 10 ** 60 - 1):
                self.same(7, lets_keeping, ONE, LEFT, (TABLE, put(RANKS, k, thing)))
        self.fails(*paper("rank", LATE), lets_keeping, ONE, LEFT, (TABLE, put(RANKS, LATE, None)))
        self.same(7, lets_keeping, ONE, LEFT, (TABLE, (0,) * 7))
        # The first one of several.
        self.fails(*paper("rank", LATE), lets_keeping, ONE, LEFT, (TABLE, put((True,) * 7, 0, 0)))

    def test_lesser_numbers(self):
        # Behind a guess that is right the room is late still; only when all have left it is free.
        size = (("a",), 2, 1, False)
        rule = (("gone", machinewords.NEEDS), ("left", machinewords.NEEDS))
        table, ranks = keeping_paper(size, rule)
        first = ((), False, True, (("guess", ()), ("turns",)))
        then = ((), False, True, ((), ("turns",)))
        last = ((), False, True, (("turns",),))
        places = [table.index(view) for view in (first, then, last) if view in table]
        self.assertEqual([ranks[k] for k in places], sorted({ranks[k] for k in places}, reverse=True))
        for k in places[:-1]:
            later = places[places.index(k) + 1]
            for thing in (None, True, False, -1, "0", (0,)):
                # None, or what is no number, is no lesser number.
                fault = min(k, later)
                self.assertEqual(keeping_fault(size, rule, (table, put(ranks, later, thing))), ("rank", fault))
                self.fails(*paper("rank", fault), lets_keeping, size, rule, (table, put(ranks, later, thing)))
            self.fails(*paper("rank", k), lets_keeping, size, rule, (table, put(ranks, k, ranks[later])))
        self.assertGreater(len(places), 1)

    def test_shape(self):
        thing = (TABLE, RANKS)
        for bad in [*STRANGE, (), list(thing), (TABLE,), (*thing, ()), (TABLE, RANKS[1:]), (TABLE[1:], RANKS), (TABLE, ()),
                    (TABLE, list(RANKS)), (list(TABLE), RANKS), (TABLE, None), (TABLE, 7), ((), RANKS), ("", ()), ((), "")]:
            if not self.is_shaped(bad):
                self.fails(*paper("shape", -1), lets_keeping, ONE, LEFT, bad)
            else:
                self.fails(*paper("view", 0), lets_keeping, ONE, LEFT, bad)
        # With no views the start is missing, but the lengths are one.
        self.fails(*paper("start", 0), lets_keeping, ONE, LEFT, ((), ()))

    def is_shaped(self, thing):
        return (isinstance(thing, tuple) and len(thing) == 2 and all(isinstance(part, tuple) for part in thing)
                and len(thing[0]) == len(thing[1]))

    def test_the_table_comes_first(self):
        for bad in NO_VIEWS:
            self.fails(*paper("view", 2), lets_keeping, ONE, LEFT, (put(TABLE, 2, bad), (True,) * 7))
        self.fails(*paper("view", 1), lets_keeping, ONE, LEFT, (TABLE[::-1], (True,) * 7))
        self.fails(*paper("move", (4, 1)), lets_keeping, ONE, LEFT, (TABLE[1:], (True,) * 6))
        self.fails(*paper("start", 1), lets_keeping, ONE, LEFT, (TABLE[:5] + TABLE[6:], (True,) * 6))
        views = tuple(sorted(viewwords.search(SIZE, HASTY)[0]))
        fault = table_fault(SIZE, HASTY, views)
        self.assertEqual(fault[0], "hands")
        self.fails(*paper(*fault), lets_keeping, SIZE, HASTY, (views, (True,) * len(views)))

    def test_wrong_arguments(self):
        for thing in STRANGE:
            self.fails(*not_usable("size"), lets_keeping, thing, thing, thing)
            self.fails(*not_usable("size"), lets_keeping, thing=None, rule=None, size=thing)
        for thing in BAD:
            self.fails(*not_usable("rule"), lets_keeping, SIZE, thing, None)
            self.fails(*not_usable("rule"), lets_keeping, thing=None, rule=thing, size=SIZE)


if __name__ == "__main__":
    unittest.main()
