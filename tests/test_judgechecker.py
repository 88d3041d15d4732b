"""[35], [42], [43], [46]: the checkers of paths into two hands, and of tables."""

import random
import unittest

from roomsback.judgechecker import lets_table, lets_two
from roomsback.judging import is_safe, two_path, view_table
from roomsback.rulechanges import every_moment, full_rule
from tests import machinewords, viewwords
from tests.test_judging import TABLE, TINY
from tests.test_machines import HASTY, SIZE
from tests.test_paths import HELD, NO_STARTS, READ, TWO, changed, paper
from tests.test_rules import BAD, not_usable
from tests.values import STRANGE, Case


def table_fault(size, rule, thing):
    """[43]: the word and the place at which a tuple of views of the size and strange values is no table, or None."""
    for k, view in enumerate(thing):
        if repr(view) in map(repr, STRANGE) or k and not thing[k - 1] < view:
            return "view", k
    for k, start in enumerate(viewwords.starts(size)):
        if start not in thing:
            return "start", k
    for k, view in enumerate(thing):
        for m, move in enumerate(viewwords.moves(size, view)):
            if viewwords.in_hands(size, view, move):
                return "hands", (k, m)
            if viewwords.behind(size, rule, view, move) not in thing:
                return "move", (k, m)
    return None


def closed(size, rule, view):
    """All views to which moves lead from a view, perhaps behind takes in two hands, too."""
    found = {view}
    todo = [view]
    while todo:
        view = todo.pop()
        for move in viewwords.moves(size, view):
            after = viewwords.behind(size, rule, view, move)
            if after not in found:
                found.add(after)
                todo.append(after)
    return found


class TwoHands(Case):
    def test_examples(self):
        self.same(2, lets_two, SIZE, HASTY, TWO)
        self.fails(*paper("last", -1), lets_two, SIZE, HASTY, (HELD, (READ,)))

    def test_what_judging_returns(self):
        chance = random.Random(201)
        for size in viewwords.SMALL + viewwords.WIDE:
            for rule in [HASTY, *viewwords.some_rules(8, chance)]:
                path = two_path(size, rule)
                if path is not None:
                    self.same(len(path[1]), lets_two, size, rule, path)
                    self.fails(*paper("last", -1), lets_two, size, rule, (path[0], path[1][:-1]))

    def test_drawn_paths(self):
        # Papers that somebody else made need not be the shortest.
        longer = 0
        for size, rule, path in viewwords.some_paths(600, 202):
            start, moves = path
            view = viewwords.walk(size, rule, start, moves[:-1])[-1]
            if moves and viewwords.in_hands(size, view, moves[-1]):
                self.same(len(moves), lets_two, size, rule, path)
                self.same(len(moves), lets_two, thing=path, rule=rule, size=size)
                longer += len(moves) > len(two_path(size, rule)[1])
            else:
                self.fails(*paper("last", -1), lets_two, size, rule, path)
        self.assertGreater(longer, 20)

    def test_changed_papers(self):
        chance = random.Random(203)
        accepted = 0
        for size, rule, path in viewwords.some_paths(800, 204):
            thing = path if chance.random() < 0.4 else changed(size, path, chance)
            rule = chance.choice([rule, rule, (), every_moment(()), machinewords.a_rule(chance)])
            fault = viewwords.path_fault(size, rule, thing)
            if fault is None:
                views = viewwords.walk(size, rule, *thing)
                if not thing[1] or not viewwords.in_hands(size, views[-2], thing[1][-1]):
                    fault = "last", -1
            if fault is None:
                accepted += 1
                self.same(len(thing[1]), lets_two, size, rule, thing)
            else:
                self.fails(*paper(*fault), lets_two, size, rule, thing)
        self.assertGreater(accepted, 15)

    def test_each_word(self):
        for thing in [*STRANGE, (), list(TWO), (HELD, list(TWO[1]))]:
            if not (isinstance(thing, tuple) and len(thing) == 2 and isinstance(thing[1], tuple)):
                self.fails(*paper("shape", -1), lets_two, SIZE, HASTY, thing)
        for start in NO_STARTS:
            self.fails(*paper("start", -1), lets_two, SIZE, HASTY, (start, TWO[1]))
            self.fails(*paper("start", -1), lets_two, SIZE, HASTY, (start, ()))
        for thing in STRANGE:
            self.fails(*paper("move", 1), lets_two, SIZE, HASTY, (HELD, (READ, thing, *TWO[1][1:])))
        self.fails(*paper("move", 1), lets_two, SIZE, (), TWO)
        self.fails(*paper("hands", 1), lets_two, SIZE, HASTY, (HELD, (*TWO[1], TWO[1][1])))
        self.fails(*paper("last", -1), lets_two, SIZE, HASTY, (HELD, ()))
        self.fails(*paper("last", -1), lets_two, SIZE, (), (((), True, False, ()), (TWO[1][1],)))


class Tables(Case):
    def test_examples(self):
        self.same(7, lets_table, TINY, full_rule(), view_table(TINY, full_rule()))
        self.fails(*paper("move", (4, 1)), lets_table, TINY, full_rule(), TABLE[1:])

    def test_what_judging_returns(self):
        # [46]: each view of a table has those behind its moves in the table.
        chance = random.Random(205)
        for size in viewwords.SMALL + viewwords.WIDE:
            for rule in [(), full_rule(), *viewwords.some_rules(6, chance)]:
                table = view_table(size, rule)
                if table is not None:
                    self.same(len(table), lets_table, size, rule, table)

    def test_tables_of_somebody_else(self):
        # With views to which no path leads, and what is behind these.
        chance = random.Random(206)
        accepted = refused = 0
        for size in viewwords.SMALL:
            for rule in [(), full_rule(), *viewwords.some_rules(5, chance)]:
                far = viewwords.search(size, rule)[0]
                for _ in range(2):
                    more = closed(size, rule, viewwords.a_view(size, chance))
                    if len(more) > 400:
                        continue
                    thing = tuple(sorted({*far, *more}))
                    fault = table_fault(size, rule, thing)
                    if fault is None:
                        accepted += more - set(far) != set()
                        self.same(len(thing), lets_table, size, rule, thing)
                        self.same(len(thing), lets_table, thing=thing, rule=rule, size=size)
                    else:
                        refused += 1
                        self.fails(*paper(*fault), lets_table, size, rule, thing)
        self.assertGreater(accepted, 10)
        self.assertGreater(refused, 10)

    def test_changed_tables(self):
        chance = random.Random(207)
        words = []
        for size in viewwords.SMALL:
            for rule in [(), full_rule(), HASTY, *viewwords.some_rules(6, chance)]:
                for _ in range(3):
                    thing = self.changed(size, rule, chance)
                    judged = chance.choice([rule, rule, rule, (), every_moment(()), HASTY])
                    fault = table_fault(size, judged, thing)
                    words.append(fault and fault[0])
                    if fault is None:
                        self.same(len(thing), lets_table, size, judged, thing)
                    else:
                        self.fails(*paper(*fault), lets_table, size, judged, thing)
        for word in ("view", "start", "hands", "move", None):
            self.assertGreater(words.count(word), 3, word)

    def changed(self, size, rule, chance):
        """A table with a view left out, doubled, exchanged with another one or with a strange value, or put in."""
        views = sorted(viewwords.search(size, rule)[0])
        at, other = chance.randrange(len(views)), chance.randrange(len(views))
        way = chance.randrange(8)
        if way == 0:
            del views[at]
        elif way == 1:
            views.insert(at, views[at])
        elif way == 2:
            views[at], views[other] = views[other], views[at]
        elif way == 3:
            views[at] = chance.choice(STRANGE)
        elif way == 4:
            views.insert(at, chance.choice(STRANGE))
        elif way == 5:
            views = sorted({*views, viewwords.a_view(size, chance)})
        elif way == 6:
            del views[views.index(chance.choice(viewwords.starts(size)))]
        return tuple(views)

    def test_each_view_left_out(self):
        for size, rule in ((TINY, full_rule()), (TINY, ()), ((("a",), 2, 1, True), full_rule())):
            table = view_table(size, rule)
            starts = viewwords.starts(size)
            for k, view in enumerate(table):
                thing = table[:k] + table[k + 1:]
                fault = table_fault(size, rule, thing)
                self.assertEqual(fault[0], "start" if view in starts else "move")
                self.fails(*paper(*fault), lets_table, size, rule, thing)

    def test_shapes_and_views(self):
        for thing in [*STRANGE, list(TABLE), "x"]:
            if not isinstance(thing, tuple):
                self.fails(*paper("shape", -1), lets_table, TINY, full_rule(), thing)
        self.fails(*paper("start", 0), lets_table, TINY, full_rule(), ())
        self.fails(*paper("start", 1), lets_table, TINY, full_rule(), (TABLE[1],))
        near = [(), HELD[:3], (*HELD, ()), list(HELD), (["x"], False, True, ()), (("x",), 0, True, ()),
                (("x",), False, 1, ()), (("x",), False, True, []), (("z",), False, True, ()), (("x", "x"), False, True, ()),
                (("x",), False, True, (["turns"],)), (("x",), False, True, (("guess",),)), (("x",), False, True, (("",),)),
                (("x",), False, True, (("guess", ("x",)),)), (("x",), False, True, (("turns", "reads"),)),
                (("x",), False, True, (("makes", "reads"),)), (("x",), False, True, (("made", "makes"),)),
                (("x",), False, True, (("made", "reads"),)), (("x",), False, True, (("turns", "turns"),)),
                (("x",), False, True, ((), ())), (("x",), False, True, (None,)), (("x",), None, True, ())]
        for thing in [*STRANGE, *near]:
            for k in (0, 3, 7):
                self.fails(*paper("view", k), lets_table, TINY, full_rule(), (*TABLE[:k], thing, *TABLE[k:]))
        self.fails(*paper("view", 1), lets_table, TINY, full_rule(), TABLE[::-1])
        self.fails(*paper("view", 1), lets_table, TINY, full_rule(), (TABLE[0], *TABLE))

    def test_forms_of_entries(self):
        # By form alone: what no path leads to may stand in a table, with what is behind it.
        size = (("a", "b"), 2, 1, False)
        far = set(viewwords.search(size, ())[0])
        for entry in [(), ("made",), ("makes",), ("reads",), ("turns",), ("made", "turns"), ("makes", "turns"),
                      ("reads", "turns"), ("guess", ()), ("guess", ("a",)), ("guess", ("a", "b"))]:
            more = closed(size, (), (("a", "b"), False, False, (entry, ())))
            thing = tuple(sorted(far | more))
            self.same(len(thing), lets_table, size, (), thing)
        for entries in [((), (), ()), (("guess", ()), ("guess", ())), (("guess", ("b", "a")),), (("guess", "a"),),
                        (("guess", ("c",)),), (("guess", None),), (("guess", (), ()),), (("guess", ("a", "a")),)]:
            thing = tuple(sorted(far)) + ((("b",), True, True, entries),)
            self.fails(*paper("view", len(far)), lets_table, size, (), thing)

    def test_hands_and_moves_come_by_view_and_move(self):
        # From this view, to which no path leads, a take is in two hands; another move leads out of the table.
        table = view_table(TINY, full_rule())
        view = ((), True, True, (("makes",),))
        self.fails(*paper("move", (3, 0)), lets_table, TINY, full_rule(), tuple(sorted({*table, view})))
        size = (("x",), 2, 0, False)
        table = {*view_table(size, ()), *[((), True, True, entries) for entries in [(("makes",),), (("made",),)]]}
        thing = tuple(sorted(table))
        fault = table_fault(size, (), thing)
        self.fails(*paper(*fault), lets_table, size, (), thing)
        self.assertEqual(fault[0], "move")
        thing = tuple(sorted(table | closed(size, (), ((), True, True, (("makes",),)))))
        fault = table_fault(size, (), thing)
        self.fails(*paper(*fault), lets_table, size, (), thing)
        self.assertEqual(fault[0], "hands")

    def test_accepted_tables_tell_of_safe_rules(self):
        # (G6): whatever is accepted is true.
        chance = random.Random(208)
        size = (("a", "b"), 2, 1, True)
        tables = [view_table(size, rule) for rule in ((), full_rule())]
        for rule in viewwords.some_rules(60, chance):
            for table in tables:
                if table_fault(size, rule, table) is None:
                    self.same(len(table), lets_table, size, rule, table)
                    self.same(True, is_safe, size, rule)

    def test_wrong_arguments(self):
        for call in (lets_two, lets_table):
            for thing in STRANGE:
                self.fails(*not_usable("size"), call, thing, thing, thing)
                self.fails(*not_usable("size"), call, thing=None, rule=None, size=thing)
            for thing in BAD:
                self.fails(*not_usable("rule"), call, SIZE, thing, None)
                self.fails(*not_usable("rule"), call, thing=TWO, rule=thing, size=SIZE)


if __name__ == "__main__":
    unittest.main()
