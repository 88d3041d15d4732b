"""[8], [10], [28], [44]: runs that show that a rule is not safe."""

import random
import unittest
import unittest.mock

from roomsback.judging import is_safe, two_path
from roomsback.results import does_show
from roomsback.rulechanges import every_moment, full_rule
from roomsback.runs import lets_run
from roomsback.showing import showing_run
from tests import runwords, viewwords
from tests.test_judging import TINY, TOGETHER
from tests.test_kinds import CLAUSES
from tests.test_machines import HASTY, SIZE
from tests.test_rules import BAD, not_usable
from tests.values import STRANGE, Case


class Showing(Case):
    def judged(self, size, rule):
        """Whether a run shows; it is one, and there is one just if the rule is not safe."""
        shown = showing_run(size, rule)
        self.assertIs(shown is None, viewwords.judge(size, rule)[1] is None)
        if shown is None:
            return False
        self.assertIs(shown.__class__, tuple)
        rooms, run = shown
        self.same(len(run), lets_run, size, rule, rooms, run)
        self.same(True, does_show, size, rule, rooms, run)
        # By the machine of the tests, and a plain machine that is reckoned behind all of it.
        self.assertEqual(len(runwords.walk(size, rule, runwords.first(size, rooms), run)), len(run) + 1)
        self.assertTrue(runwords.Reckoned(size, run).shows())
        return True

    def needs_at_the_end(self, size, rule):
        """The needs that the room has at the last take of a path, but for those of the make itself."""
        start, moves = two_path(size, rule)
        names, _, _, entries = viewwords.walk(size, rule, start, moves[:-1])[-1]
        needs = {"name"} if set(names) - {moves[-1][1][1]} else set()
        for entry in entries:
            needs |= {"picture"} if entry[:1] == ("guess",) and entry[1] else set()
            needs |= {"maker"} if "makes" in entry else {"reader"} if "reads" in entry else set()
        return tuple(sorted(needs))

    def test_examples(self):
        rooms, run = showing_run(SIZE, HASTY)
        self.same(True, does_show, SIZE, HASTY, rooms, run)
        self.same(None, showing_run, SIZE, full_rule())

    def test_all_rules_of_one_clause(self):
        needs = []
        for size in (TINY, (("a",), 2, 1, True), (("a",), 3, 1, False), (("a", "b"), 2, 1, True), (("a", "b"), 2, 2, False)):
            for clause in CLAUSES:
                if self.judged(size, (clause,)):
                    needs.append(self.needs_at_the_end(size, (clause,)))
        # The room is in two hands for each of the needs.
        for need in ("maker", "name", "picture", "reader"):
            self.assertIn((need,), needs)

    def test_drawn_rules(self):
        chance = random.Random(211)
        found = [self.judged(size, rule) for size in viewwords.SMALL for rule in viewwords.some_rules(30, chance)]
        found += [self.judged(size, rule) for size in viewwords.WIDE for rule in viewwords.some_rules(8, chance)]
        self.assertGreater(found.count(True), 60)
        self.assertGreater(found.count(False), 40)

    def test_safe_alone_and_not_together(self):
        for size, rule in TOGETHER:
            self.assertEqual([self.judged(size, (clause,)) for clause in rule], [False] * len(rule))
            self.assertTrue(self.judged(size, rule))

    def test_any_path_into_two_hands(self):
        # Whichever shortest path is found: also of longer ones, with several needs at the end, a run is made that shows.
        tried = 0
        for size, rule, path in viewwords.some_paths(800, 212, 30):
            before = viewwords.walk(size, rule, path[0], path[1][:-1])[-1]
            if path[1] and viewwords.in_hands(size, before, path[1][-1]):
                tried += 1
                with unittest.mock.patch("roomsback.showing.two_path", return_value=path):
                    rooms, run = showing_run(size, rule)
                self.same(len(run), lets_run, size, rule, rooms, run)
                self.assertTrue(runwords.Reckoned(size, run).shows())
        self.assertGreater(tried, 60)

    def test_rules_without_tests(self):
        for size in viewwords.SMALL:
            self.same(is_safe(size, every_moment(())), lambda: showing_run(size, every_moment(())) is None)
            self.same(None, showing_run, rule=(), size=size)

    def test_wrong_arguments(self):
        for thing in STRANGE:
            self.fails(*not_usable("size"), showing_run, thing, thing)
            self.fails(*not_usable("size"), showing_run, rule=None, size=thing)
        for thing in BAD:
            self.fails(*not_usable("rule"), showing_run, SIZE, thing)
            self.fails(*not_usable("rule"), showing_run, rule=thing, size=TINY)


if __name__ == "__main__":
    unittest.main()
