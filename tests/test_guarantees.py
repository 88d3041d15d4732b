"""The guarantees of [10], and the consequences [27], [33], [46], [59], over drawn sizes, rules and runs."""

import random
import unittest

from roomsback.judgechecker import lets_table, lets_two
from roomsback.judging import is_safe, two_path, view_table
from roomsback.keeping import loses_none
from roomsback.lifting import run_of
from roomsback.likeness import are_alike
from roomsback.losing import late_path, losing_paper
from roomsback.machines import is_possible
from roomsback.paths import lets_path, view_at_end
from roomsback.results import does_show
from roomsback.rulechanges import full_rule, tested
from roomsback.runs import drained, lets_run, stand_behind
from roomsback.showing import showing_run
from roomsback.twinhouses import TwinHouse
from roomsback.viewing import path_of, view_of
from roomsback.views import needs_in, view_behind, view_moves
from tests import machinewords, runwords, viewwords
from tests.test_counts import take_in_hands
from tests.test_losing import losing_rules
from tests.values import Case

SIZES = viewwords.SMALL + [(("a", "b"), 3, 1, True), (("a", "b", "c"), 2, 1, True)]


def some_runs(many, seed, most=30):
    """A size, a rule, a number of rooms, a run, the stands along it, and how many moves come ahead of two hands."""
    chance = random.Random(seed)
    found = []
    for _ in range(many):
        size = chance.choice(SIZES)
        rule = chance.choice([full_rule(), (), machinewords.a_rule(chance), *viewwords.some_rules(6, chance)[2:]])
        rooms = len(size[0]) + chance.randrange(4)
        run = runwords.a_run(size, rule, rooms, most, chance)
        stands = runwords.walk(size, rule, runwords.first(size, rooms), run)
        hands = [k for k, move in enumerate(run) if take_in_hands(size, stands[k], move)]
        found.append((size, rule, rooms, run, stands, hands[0] if hands else len(run)))
    return found


class Kept:
    """What each room holds, or will hold, beside what each name, picture and reader should find there."""

    def __init__(self, size):
        self.size = size
        self.owner = {k: name for k, name in enumerate(size[0])}
        self.names = {name: name for name in size[0]}
        self.flight = []
        self.many = 0

    def move(self, stand, move):
        word = move[0]
        if word == "take":
            _, step, room = move
            due = [self.names[name] for name in step[2]]
            self.names = {**self.names, step[1]: self.many}
            self.owner[room] = self.many
            self.flight.append(due)
        elif word == "enter":
            self.flight.append(self.names)
            if move[1][0] == "same":
                self.names = {**self.names, move[1][1]: self.names[move[1][2]]}
        elif word == "wrong":
            self.names = self.flight[move[1]]
            del self.flight[move[1] + 1:]
        elif word == "leave":
            del self.flight[0]
        self.many += word in ("take", "enter")

    def agrees(self, stand):
        """Whether all names, pictures and readers still find their results."""
        leads, _, _, flight = stand
        fine = all(self.owner[room] == self.names[name] for name, room in zip(self.size[0], leads))
        for entry, known in zip(flight, self.flight):
            if entry[0] == "make" and not entry[4]:
                fine = fine and [self.owner[room] for room in entry[2]] == known
            elif entry[0] == "guess" and entry[1] is not None:
                fine = fine and [self.owner[room] for room in entry[1]] == [known[name] for name in self.size[0]]
        return fine


class Guarantees(Case):
    def test_two_hands_and_what_shows(self):
        # (G1)
        shown = hands = 0
        for size, rule, rooms, run, stands, first in some_runs(700, 461):
            shows = does_show(size, rule, rooms, run)
            if first == len(run):
                self.assertIs(shows, False)
            else:
                hands += 1
                self.assertIs(is_safe(size, rule), False)
            shown += shows
            kept = Kept(size)
            for k, move in enumerate(run[:first]):
                kept.move(stands[k], move)
                self.assertTrue(kept.agrees(stands[k + 1]))
        self.assertGreater(shown, 5)
        self.assertGreater(hands, 30)

    def test_a_path_into_two_hands_is_shown(self):
        # (G1), and [46]: is_safe, two_path, view_table and showing_run tell the same.
        chance = random.Random(462)
        told = []
        for size in SIZES:
            for rule in [(), full_rule(), *viewwords.some_rules(10, chance)]:
                safe = is_safe(size, rule)
                told.append(safe)
                path, table, pair = two_path(size, rule), view_table(size, rule), showing_run(size, rule)
                self.assertEqual([path is None, table is not None, pair is None], [safe] * 3)
                if safe:
                    self.same(len(table), lets_table, size, rule, table)
                else:
                    self.same(len(path[1]), lets_two, size, rule, path)
                    self.assertTrue(runwords.Reckoned(size, pair[1]).shows())
                    self.same(len(pair[1]), lets_run, size, rule, *pair)
        self.assertGreater(told.count(True), 20)
        self.assertGreater(told.count(False), 20)

    def test_views_of_runs_are_views_of_paths(self):
        # (G2), and [46] for all rooms.
        tables = {}
        for size, rule, rooms, run, stands, first in some_runs(250, 463, 16):
            if (size, rule) not in tables:
                tables[size, rule] = viewwords.search(size, rule)[0]
            for room in range(rooms):
                for k in {0, first // 2, first}:
                    view = view_of(size, stands[k], room)
                    self.assertIn(view, tables[size, rule])
                    self.assertEqual(view, view_at_end(size, rule, path_of(size, rule, rooms, run[:k], room)))
                    self.assertEqual(needs_in(view), machinewords.needs(size, stands[k], room))

    def test_paths_as_runs(self):
        # (G2): with one room more than names and makes.
        for size, rule, path in viewwords.some_paths(200, 464):
            rooms, run, room = run_of(size, rule, path)
            makes = [move for move in path[1] if move[0] in ("take", "enter") and move[1][0] == "make"]
            self.assertEqual(rooms, len(size[0]) + len(makes) + 1)
            self.same(len(run), lets_run, size, rule, rooms, run)
            self.assertEqual(path_of(size, rule, rooms, run, room), path)

    def test_clauses_left_out_or_put_in(self):
        # (G3), and [59]: a further need in the tests keeps a safe rule safe.
        chance = random.Random(465)
        safe = kept = 0
        for size in SIZES:
            for rule in [full_rule(), *viewwords.some_rules(6, chance), *losing_rules(5, chance)]:
                if not is_safe(size, rule):
                    continue
                for k in range(len(rule)):
                    less = rule[:k] + rule[k + 1:]
                    safe += 1
                    self.assertIs(is_safe(size, less), True)
                    if loses_none(size, less):
                        kept += 1
                        self.assertIs(loses_none(size, rule), True)
                for need in machinewords.NEEDS:
                    moment = chance.choice([None, *machinewords.MOMENTS])
                    self.assertIs(is_safe(size, tested(rule, need, moment=moment)), True)
        self.assertGreater(safe, 80)
        self.assertGreater(kept, 15)

    def test_the_full_rule(self):
        # (G4)
        for size in SIZES + [(("a", "b"), 3, 2, True), (("a", "b", "c"), 2, 2, True), (("a",), 4, 3, False)]:
            self.assertEqual([two_path(size, full_rule()), late_path(size, full_rule()), losing_paper(size, full_rule())],
                             [None] * 3)
            self.assertIs(loses_none(size, full_rule()), True)


class Consequences(Case):
    def test_runs(self):
        # [27]
        for size, rule, rooms, run, stands, _ in some_runs(250, 466):
            longer = drained(size, rule, rooms, run)
            if longer is not None:
                self.same(len(longer), lets_run, size, rule, rooms, longer)
                self.assertEqual((longer[:len(run)], stand_behind(size, rule, rooms, longer)[3]), (run, ()))
            leads, free, filled, flight = stands[-1]
            wide = (leads, tuple(sorted({*free, rooms, rooms + 1})), filled, flight)
            for move in machinewords.moves(size, rooms):
                if is_possible(size, stands[-1], move):
                    self.same(True, is_possible, size, wide, move)
            if rule == ():
                self.assertLessEqual(len([move for move in run if move[0] == "take"]), rooms - len(size[0]))

    def test_twins_with_equal_rules(self):
        # [33]
        for size, rule, rooms, run, stands, _ in some_runs(60, 467):
            twin = TwinHouse(size, rule, rooms, rule)
            for move in run:
                twin.go(move)
                self.assertEqual((twin.unlike_now, twin.other_now), ((), twin.stand_now))

    def test_paths_of_other_rules(self):
        # [46]: a path of a rule is one of each rule that gives back the same along it; all lead into the table.
        chance = random.Random(468)
        tables = {}
        same = 0
        for size, rule, path in viewwords.some_paths(250, 469):
            if (size, rule) not in tables:
                tables[size, rule] = view_table(size, rule)
            table = tables[size, rule]
            if table is not None:
                self.assertIn(view_at_end(size, rule, path), table)
            views = viewwords.walk(size, rule, *path)
            other = chance.choice([(), full_rule(), machinewords.a_rule(chance), rule[1:], rule[:-1]])
            if all(viewwords.behind(size, other, view, move)[1] == after[1]
                   for view, move, after in zip(views, path[1], views[1:])):
                same += 1
                self.same(len(path[1]), lets_path, size, other, path)
        self.assertGreater(same, 60)

    def test_closed_tables(self):
        # [46]: each view of a table that is let has those behind its moves in it; () is safe.
        for size in SIZES:
            for rule in [(), full_rule(), full_rule()[1:]]:
                table = view_table(size, rule)
                self.same(len(table), lets_table, size, rule, table)
                known = {*table}
                for view in table[::3]:
                    for move in view_moves(size, view):
                        self.assertIn(view_behind(size, rule, view, move), known)
            self.same(True, is_safe, size, ())

    def test_alike_rules_and_rules_that_are_never_late(self):
        # [59]
        chance = random.Random(470)
        alike = 0
        for size in viewwords.SMALL:
            rules = [full_rule(), full_rule()[1:], *viewwords.some_rules(8, chance), *losing_rules(4, chance)]
            for rule in rules:
                if late_path(size, rule) is None:
                    self.assertIs(loses_none(size, rule), True)
                self.assertIs(loses_none(size, rule), losing_paper(size, rule) is None)
                for other in rules:
                    if are_alike(size, rule, other):
                        alike += rule != other
                        self.assertEqual((is_safe(size, rule), loses_none(size, rule)),
                                         (is_safe(size, other), loses_none(size, other)))
        self.assertGreater(alike, 10)


if __name__ == "__main__":
    unittest.main()
