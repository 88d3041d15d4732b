"""[9], [47]: rooms that are lost, and rooms that are late."""

import random
import unittest

from roomsback.losing import is_lost, late_path, losing_paper
from roomsback.paths import lets_path, view_at_end
from roomsback.rulechanges import every_moment, full_rule
from tests import latewords, machinewords, viewwords
from tests.test_likeness import LEFT, ONE
from tests.test_machines import HASTY, SIZE
from tests.test_paths import HELD
from tests.test_rules import BAD, not_usable
from tests.test_views import NO_VIEWS, some_views
from tests.values import STRANGE, Case

TURNED = ((), False, True, (("turns",),))
# As in stages 9 to 17, and somewhat beyond.
SIZES = viewwords.SMALL + [(("a", "b"), 3, 1, True), (("a", "b", "c"), 2, 1, True), (("a",), 4, 2, True)]


def losing_rules(many, chance):
    """Rules that often give rooms back only behind one moment or another."""
    found = []
    for _ in range(many):
        clauses = [(moment, machinewords.NEEDS if chance.random() < 0.7 else tuple(machinewords.NEEDS[:chance.randrange(5)]))
                   for moment in chance.sample(machinewords.MOMENTS, chance.randrange(5))]
        found.append(tuple(sorted(set(clauses))))
    return found


class Losing(Case):
    def test_examples(self):
        self.same(((("a",), False, True, ()), (("enter", ("make", "a", ())),)), lambda: losing_paper(ONE, ())[0])
        self.same(None, losing_paper, ONE, LEFT)
        self.same((("enter", ("make", "a", ())),), lambda: late_path(ONE, LEFT)[1])
        self.same(False, is_lost, ONE, LEFT, TURNED)
        self.same(True, is_lost, ONE, (), TURNED)

    def test_views_by_form(self):
        chance = random.Random(321)
        lost = late = 0
        for size, view in some_views(400, 322):
            if chance.random() < 0.7:
                view = ((), False, view[2], view[3])
            rule = chance.choice([(), full_rule(), *losing_rules(4, chance), *viewwords.some_rules(3, chance)])
            expected = latewords.Lost(size, rule)(view)
            late += latewords.is_late(size, view) and not expected
            lost += expected
            self.same(expected, is_lost, size, rule, view)
            self.same(expected, is_lost, view=view, rule=rule, size=size)
        self.assertGreater(lost, 60)
        self.assertGreater(late, 40)

    def test_what_is_not_lost(self):
        # A room that is free, and one that has a need, whatever comes behind.
        for view in [((), True, False, ()), ((), True, True, (("turns",),)), HELD, ((), False, True, (("reads",),)),
                     ((), False, True, (("guess", ("x",)),)), ((), False, False, (("makes",),))]:
            self.same(False, is_lost, SIZE, (), view)
        # It waits for a step that is behind others, and for a guess.
        view = ((), False, True, ((), ("guess", ()), ("turns",)))
        size = (("x",), 3, 1, False)
        self.same(False, is_lost, size, LEFT, view)
        self.same(True, is_lost, size, (("read", ()), ("right", ())), view)
        # Dropped, it may be gone.
        self.same(False, is_lost, size, (("gone", ()),), ((), False, True, (("guess", ()), ("made",))))
        self.same(True, is_lost, size, (("gone", ()),), ((), False, True, (("made",), ("guess", ()))))

    def papers(self, size, rule):
        """Judge losing_paper and late_path of a rule; return the fewest moves of both."""
        lost = latewords.Lost(size, rule)
        least = latewords.losing(size, rule)
        paper = losing_paper(size, rule)
        if least is None:
            self.assertIs(paper, None)
        else:
            path, views = paper
            self.assertEqual(len(path[1]), least)
            self.same(least, lets_path, size, rule, path)
            end = viewwords.walk(size, rule, *path)[-1]
            self.assertEqual(end, view_at_end(size, rule, path))
            self.assertTrue(lost(end))
            self.assertEqual(repr(views), repr(tuple(sorted({*views}))))
            self.assertIn(end, views)
            for view in views:
                self.assertIs(view[1], False)
                for move in viewwords.moves(size, view):
                    self.assertIn(viewwords.behind(size, rule, view, move), views)
        soonest = viewwords.search(size, rule, lambda view, move, after: latewords.is_late(size, after))[1]
        path = late_path(size, rule)
        if soonest is None:
            self.assertIs(path, None)
        else:
            self.assertEqual(len(path[1]), soonest)
            self.same(soonest, lets_path, size, rule, path)
            self.assertTrue(latewords.is_late(size, viewwords.walk(size, rule, *path)[-1]))
        return least, soonest

    def test_beside_a_search_of_all_views(self):
        chance = random.Random(323)
        found = []
        for size in SIZES:
            for rule in [(), full_rule(), HASTY if "x" in size[0] else LEFT, *viewwords.some_rules(6, chance),
                         *losing_rules(6, chance)]:
                found.append(self.papers(size, rule))
        least = [pair[0] for pair in found]
        self.assertGreater(least.count(None), 20)
        self.assertGreater(len(least) - least.count(None), 40)
        self.assertGreater(max(many for many in least if many is not None), 2)
        # Late is sooner than lost; and what is lost is late.
        self.assertGreater(sum(many is None and soon is not None for many, soon in found), 3)
        self.assertTrue(all(many is None or soon <= many for many, soon in found))

    def test_wide_sizes(self):
        chance = random.Random(324)
        for size in [(("a", "b"), 3, 2, True), (("a", "b", "c"), 2, 2, True)]:
            for rule in [(), *losing_rules(1, chance)]:
                self.papers(size, rule)

    def test_lost_behind_many_moves(self):
        # Lost only when the last one of several needs is there no more.
        size = (("a",), 3, 2, False)
        rule = (("gone", ("maker", "picture")), ("made", machinewords.NEEDS), ("right", ("maker", "picture")),
                ("turned", ("picture",)))
        self.assertEqual(self.papers(size, rule)[0], 6)
        size = (("a", "b"), 2, 1, True)
        rule = (("gone", machinewords.NEEDS[:3]), ("made", machinewords.NEEDS), ("right", machinewords.NEEDS),
                ("turned", machinewords.NEEDS[:3]))
        self.assertEqual(self.papers(size, rule)[0], 4)

    def test_the_full_rule_is_never_late(self):
        # (G4)
        for size in SIZES:
            self.same(None, late_path, size, full_rule())
            self.same(None, losing_paper, size, full_rule())
        self.same(None, late_path, size=SIZE, rule=every_moment(()))
        self.assertEqual(len(losing_paper(rule=(), size=SIZE)[0][1]), 1)

    def test_a_rule_that_is_not_safe_loses_rooms_too(self):
        # Behind a take in two hands no path goes on, but elsewhere it does.
        rule = (("turned", ("picture", "reader")),)
        self.assertEqual(self.papers(SIZE, rule)[0], latewords.losing(SIZE, rule))
        self.assertIsNotNone(losing_paper(SIZE, rule))

    def test_wrong_arguments(self):
        for thing in STRANGE:
            self.fails(*not_usable("size"), is_lost, thing, thing, thing)
            self.fails(*not_usable("size"), is_lost, view=None, rule=None, size=thing)
            for call in (losing_paper, late_path):
                self.fails(*not_usable("size"), call, thing, thing)
                self.fails(*not_usable("size"), call, rule=None, size=thing)
        for thing in BAD:
            self.fails(*not_usable("rule"), is_lost, SIZE, thing, thing)
            self.fails(*not_usable("rule"), is_lost, view=None, rule=thing, size=SIZE)
            for call in (losing_paper, late_path):
                self.fails(*not_usable("rule"), call, SIZE, thing)
                self.fails(*not_usable("rule"), call, rule=thing, size=SIZE)
        for thing in [*NO_VIEWS, (("z",), False, True, ()), ((), True, False, ((),) * 3)]:
            self.fails(*not_usable("view"), is_lost, SIZE, HASTY, thing)
            self.fails(*not_usable("view"), is_lost, view=thing, rule=(), size=SIZE)


if __name__ == "__main__":
    unittest.main()
