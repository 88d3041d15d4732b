"""[9], [10], [34] to [36], [40], [41], [46]: judging rules, beside a search of the tests' own over all views."""

import random
import unittest

from roomsback.judging import is_safe, two_path, view_table
from roomsback.rulechanges import full_rule
from tests import machinewords, runwords, viewwords
from tests.test_kinds import CLAUSES
from tests.test_machines import HASTY, SIZE
from tests.test_rules import BAD, not_usable
from tests.values import STRANGE, Case

TINY = (("x",), 1, 0, False)
# By the full rule the room is given back as soon as it has no need, so it is never late.
TABLE = (((), False, True, (("reads", "turns"),)), ((), True, False, ()), ((), True, True, ()),
         ((), True, True, (("turns",),)), (("x",), False, False, (("makes",),)), (("x",), False, True, ()),
         (("x",), False, True, (("made",),)))
# Each of these clauses is safe by itself, and both together are not.
TOGETHER = [((("a",), 2, 1, True), (("left", ()), ("made", machinewords.NEEDS))),
            ((("a",), 3, 2, False), (("left", ()), ("read", ("maker", "name", "picture")))),
            ((("a", "b"), 2, 0, False), (("left", ()), ("made", ("name", "reader"))))]


def is_two_path(size, rule, path):
    """Whether this is a path by the words of the tests, and its last move alone is in two hands."""
    start, moves = path
    if start not in viewwords.starts(size) or not moves:
        return False
    view = start
    for k, move in enumerate(moves):
        last = k == len(moves) - 1
        if not viewwords.is_move(size, view, move) or viewwords.in_hands(size, view, move) is not last:
            return False
        view = viewwords.behind(size, rule, view, move)
    return True


class Judging(Case):
    def test_examples(self):
        self.assertEqual(len(two_path(SIZE, HASTY)[1]), 2)
        self.same(True, is_safe, TINY, HASTY)
        self.same(None, two_path, SIZE, full_rule())
        self.assertEqual((len(view_table(TINY, full_rule())), view_table(TINY, full_rule())[0]), (7, TABLE[0]))
        self.same(None, view_table, SIZE, HASTY)

    def judged_alike(self, size, rule):
        """The fewest moves into two hands; all that is told agrees with the search of the tests."""
        far, least = viewwords.judge(size, rule)
        path = two_path(size, rule)
        self.same(least is None, is_safe, size, rule)
        if least is None:
            self.assertIs(path, None)
            self.same(tuple(sorted(far)), view_table, size, rule)
        else:
            self.assertEqual(len(path[1]), least)
            self.assertTrue(is_two_path(size, rule, path), path)
            self.same(None, view_table, rule=rule, size=size)
        return least

    def test_against_a_search_over_all_views(self):
        chance = random.Random(161)
        found = [self.judged_alike(size, rule) for size in viewwords.SMALL for rule in viewwords.some_rules(20, chance)]
        found += [self.judged_alike(size, rule) for size in viewwords.WIDE for rule in viewwords.some_rules(6, chance)]
        self.assertGreater(found.count(None), 40)
        self.assertGreater(len(set(found)), 5)

    def test_all_rules_of_one_clause(self):
        for clause in CLAUSES:
            self.judged_alike((("a", "b"), 2, 1, False), (clause,))

    def test_safe_alone_and_not_together(self):
        for size, rule in TOGETHER:
            for clause in rule:
                self.assertIs(self.judged_alike(size, (clause,)), None)
            self.assertIsNot(self.judged_alike(size, rule), None)

    def test_guarantees(self):
        for size in viewwords.SMALL + viewwords.WIDE:
            # (G4), and [46]: by the rule () nothing that was taken comes back.
            self.same(True, is_safe, size, full_rule())
            self.same(True, is_safe, size, ())
            self.same(None, two_path, size, ())
            # By the rule () the room is free at first alone.
            for names, is_free, _, entries in view_table(size, ()):
                took = any(word in entry for entry in entries for word in ("made", "makes", "reads", "turns"))
                self.assertFalse(is_free and (names or took))

    def test_clauses_left_out(self):
        # (G3): of a safe rule all parts are safe.
        chance = random.Random(162)
        seen = 0
        for rule in viewwords.some_rules(60, chance):
            if is_safe((("a", "b"), 2, 1, True), rule):
                seen += 1
                for k in range(len(rule)):
                    self.same(True, is_safe, (("a", "b"), 2, 1, True), rule[:k] + rule[k + 1:])
        self.assertGreater(seen, 10)

    def test_views_of_rooms_in_runs(self):
        # (G2): all rooms in all runs by a safe rule are seen as in the table.
        chance = random.Random(163)
        for size in viewwords.SMALL + viewwords.WIDE:
            rules = [rule for rule in viewwords.some_rules(8, chance) if is_safe(size, rule)]
            for rule in rules:
                table = view_table(size, rule)
                for _ in range(6):
                    rooms = len(size[0]) + chance.randrange(4)
                    run = runwords.a_run(size, rule, rooms, 30, chance)
                    stand = runwords.walk(size, rule, runwords.first(size, rooms), run)[-1]
                    for room in range(rooms):
                        self.assertIn(viewwords.view_at(size, stand, room), table)

    def test_runs_in_two_hands(self):
        # (G1), for drawn runs: if one shows, the rule is not safe.
        shown = 0
        for size, rule, rooms, run in runwords.some_runs(900, 164, 20):
            if runwords.Reckoned(size, run).shows() and size[1] < 4:
                shown += 1
                self.same(False, is_safe, size, rule)
        self.assertGreater(shown, 5)

    def test_words_go_by_the_number_of_the_room(self):
        # A step that turned the room before it was taken anew still turns it, so it is given back too soon.
        size = (("a",), 3, 0, False)
        rule = (("left", ()), ("turned", ("reader",)))
        self.assertEqual(len(two_path((("a",), 2, 0, False), rule)[1]), viewwords.judge((("a",), 2, 0, False), rule)[1])
        self.assertEqual(len(two_path(size, rule)[1]), viewwords.judge(size, rule)[1])

    def test_tables_of_the_simplest_machine(self):
        self.same(TABLE, view_table, TINY, full_rule())
        self.same(True, is_safe, rule=full_rule(), size=TINY)
        size = (("x",), 1, 0, True)
        self.same(TABLE, view_table, size, full_rule())
        self.assertEqual(sorted(TABLE), list(TABLE))

    def test_wrong_arguments(self):
        for call in (two_path, is_safe, view_table):
            for thing in STRANGE:
                self.fails(*not_usable("size"), call, thing, thing)
                self.fails(*not_usable("size"), call, rule=None, size=thing)
            for thing in BAD:
                self.fails(*not_usable("rule"), call, SIZE, thing)
                self.fails(*not_usable("rule"), call, rule=thing, size=TINY)


if __name__ == "__main__":
    unittest.main()
