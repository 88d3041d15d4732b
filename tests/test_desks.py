"""[72], [73], [74]: a desk that leads a bench by rows of text."""

import random
import unittest

from roomsback.benches import Bench
from roomsback.benchtexts import log_lines
from roomsback.desks import Desk
from roomsback.errors import InvalidEvent, InvalidRow, NothingToUndo
from roomsback.ruleclasses import Rule
from tests import benchwords, machinewords, runwords
from tests.benchwords import an_event, line
from tests.lines import spoiled
from tests.test_benches import OBJECTS
from tests.test_machines import HASTY, SIZE, TAKE
from tests.test_rules import not_usable
from tests.values import STRANGE, Case

FIRST = "bench x y; 2 places; 1 guesses; copies\nrooms 3\nrule turned"
QUERIES = "events log rule rooms free late hands leads cells shows verdict alarms table".split()
# No rows, whatever the bench is.
NO_ROWS = [*STRANGE, "a", *OBJECTS, (FIRST,), FIRST.split("\n"), FIRST + "\n", "\n" + FIRST,
           FIRST + "\nroom", FIRST + "\nrule -", FIRST.replace("\n", " "), FIRST.replace("\n", "\n\n"), FIRST[:-1], FIRST + ";",
           "\n".join(FIRST.split("\n")[:2]), FIRST.split("\n")[0], "rooms 3", "rule  turned", "bars", "bars ", "bars undo",
           "bars events", "bars bars room", "bars  room", "bars room ", "bars rule", "bars rooms", "bars " + FIRST, "Events",
           "event", "events ", " events", "events\n", "room\n", "undo ", "undo\nundo", "room\nroom", "room room", "rule turned;",
           "rule left; gone", "leave 0", "run", "run 00", "run -1", "run " + "1" * 61, "take make z in 2", "enter same x x",
           "take make x of y x in 2", "TABLE", "tables", "lates", "hand", "-", "ok", "yes", "no", "counts", "given 0", "tried room",
           "results", "trial", "moves", "size", "stand", b"room", ("room",), ("rule", ())]


def spaced(things):
    return " ".join(map(str, things)) or "-"


class Words:
    """A desk as the document has it, by the notes of a bench."""

    def __init__(self):
        self.notes = None
        self.calls = 0

    def query(self, row):
        """[73]: the answer to a row that changes nothing."""
        notes = self.notes
        known = notes.state()
        if row == "verdict":
            return notes.verdict()
        return {
            "events": str(known["many"]), "log": known["lines"], "rule": line(("rule", known["rule"])),
            "rooms": str(known["rooms"]), "free": spaced(known["free"]), "late": spaced(known["late"]),
            "hands": spaced(known["hands"]), "leads": spaced(f"{name}@{room}" for name, room in zip(known["names"], known["leads"])),
            "cells": spaced(f"{name}@{result}" for name, result in known["cells"].items()),
            "shows": "yes" if known["shows"] else "no", "table": " / ".join(known["table"]),
            "alarms": spaced(f"{room}@{'+'.join(needs)}" for room, needs in known["alarms"])}[row]


class Desks(Case):
    def said(self, desk, words, row, answer):
        words.calls += 1
        self.same(answer, desk.say, row)
        self.assertEqual(repr(desk.counts()), repr((words.calls, words.calls)))

    def refused(self, desk, words, row, error=InvalidRow, **fields):
        words.calls += 1
        before = repr(row)
        with self.assertRaises(error) as caught:
            desk.say(row)
        self.assertIs(caught.exception.__class__, error)
        if error is InvalidRow:
            self.assertIs(caught.exception.row, row)
        else:
            self.assertEqual(repr(vars(caught.exception)), repr(fields))
        self.assertEqual((repr(row), repr(desk.counts())), (before, repr((words.calls, words.calls))))

    def begun(self, log):
        """A desk with a bench of which this is the first element of the log, and the words beside it."""
        desk, words = Desk(), Words()
        self.said(desk, words, "\n".join(log_lines((log,))), "ok")
        words.notes = benchwords.Notes(*log[1:])
        return desk, words

    def test_examples(self):
        desk = Desk()
        self.assertEqual([desk.say(FIRST), desk.say("take make x of x in 2"), desk.say("alarms"), desk.say("leads"),
                          desk.say("bars leave")], ["ok", "0", "0@reader", "x@2 y@1", "move"])
        self.assertEqual(desk.counts(), (5, 5))

    def test_listed_in_the_class_itself(self):
        self.assertIn("say", vars(Desk))
        self.assertIn("counts", vars(Desk))

    def test_each_row(self):
        desk, words = self.begun(("bench", SIZE, HASTY, 3))
        for row, answer in [
                ("events", "0"), ("log", "-"), ("rule", "rule turned"), ("rooms", "3"), ("free", "2"), ("late", "-"),
                ("hands", "-"), ("leads", "x@0 y@1"), ("cells", "x@x y@y"), ("shows", "no"), ("verdict", "hands"),
                ("alarms", "-"), ("bars room", "-"), ("bars leave", "move"), ("bars rule turned", "same"),
                ("table", " 0 held filled x        name /  1 held filled y        name /  2 free empty  -        -"),
                ("take make x of x in 2", "0"), ("alarms", "0@reader"), ("free", "0"), ("take make y in 0", "1"), ("hands", "1"),
                ("run 1", "-"), ("run 0", "-"), ("leave", "-"), ("shows", "yes"), ("cells", "x@0 y@1"), ("leads", "x@2 y@0"),
                ("room", "3"), ("free", "1 3"), ("rooms", "4"), ("rule -", "-"), ("rule", "rule -"), ("verdict", "loses"),
                ("rule gone; left", "-"), ("undo", "rule gone; left"), ("rule", "rule -"), ("events", "7"),
                ("log", "take make x of x in 2 / take make y in 0 / run 1 / run 0 / leave / room / rule -"),
                ("undo", "rule -"), ("rule", "rule turned"), ("undo", "room"), ("undo", "leave"), ("shows", "no"),
                ("undo", "run 0"), ("undo", "run 1"), ("undo", "take make y in 0"), ("enter guess", "-"), ("leads", "x@2 y@1"),
                ("enter same x y", None), ("right 1", "-"), ("events", "3"), ("undo", "right 1"), ("wrong 1", "-"),
                ("undo", "wrong 1"), ("undo", "enter guess"), ("undo", "take make x of x in 2"), ("undo", ""), ("log", "-")]:
            if answer is None:
                self.refused(desk, words, row, InvalidEvent, event=("enter", ("same", "x", "y")), reason="move")
            elif row == "undo" and answer == "":
                self.refused(desk, words, row, NothingToUndo, steps=0)
            else:
                self.said(desk, words, row, answer)

    def test_late_rooms(self):
        desk, words = self.begun(("bench", SIZE, (("left", ()),), 4))
        for row, answer in [("take make x in 2", "-"), ("take make y in 3", "-"), ("run 0", "-"), ("run 1", "-"),
                            ("late", "0 1"), ("leave", "0"), ("late", "1"), ("leave", "1"), ("late", "-"), ("free", "0 1")]:
            self.said(desk, words, row, answer)
        desk, words = self.begun(("bench", SIZE, HASTY, 3))
        for row in ("take make x of x in 2", "enter guess"):
            desk.say(row)
            words.calls += 1
        self.said(desk, words, "bars enter same x y", "move")
        desk, words = self.begun(("bench", (("x", "y"), 3, 1, True), HASTY, 3))
        for row, answer in [("enter same x y", "0"), ("enter guess", "-"), ("enter same y x", "1"),
                            ("alarms", "1@name+picture"), ("free", "0 1 2")]:
            self.said(desk, words, row, answer)

    def test_led_along_drawn_ways(self):
        chance = random.Random(451)
        used = []
        for _ in range(60):
            size = chance.choice(machinewords.SIZES[:4] + [SIZE])
            rooms = min(9, len(size[0]) + chance.randrange(5))
            rule = chance.choice([(), HASTY, runwords.FULL, machinewords.a_rule(chance)])
            desk, words = self.begun(("bench", size, rule, rooms))
            for _ in range(chance.choice([10, 70])):
                used.append(self.one_row(desk, words, chance))
            for row in QUERIES:
                self.said(desk, words, row, words.query(row))
        for way in ("done", "full", "move", "same", "rooms", "undo", "nothing", "bars", "query", "none"):
            self.assertGreater(used.count(way), 8, way)

    def one_row(self, desk, words, chance):
        """One row of each kind, and what it was."""
        notes = words.notes
        way = chance.choice(["event"] * 9 + ["undo", "bars", "query", "none"])
        event = an_event(notes, chance)
        if way == "event":
            reason = notes.reason(event)
            if reason is None:
                self.said(desk, words, line(event), spaced(notes.add(event)))
                return "done"
            self.refused(desk, words, line(event), InvalidEvent, event=event, reason=reason)
            return reason
        if way == "undo" and len(notes.past) == 1:
            self.refused(desk, words, "undo", NothingToUndo, steps=0)
            return "nothing"
        if way == "undo":
            self.said(desk, words, "undo", line(notes.past.pop()["event"]))
        elif way == "bars":
            self.said(desk, words, "bars " + line(event), notes.reason(event) or "-")
        elif way == "query":
            row = chance.choice([row for row in QUERIES if row != "verdict"])
            self.said(desk, words, row, words.query(row))
        else:
            self.refused(desk, words, chance.choice(NO_ROWS))
        return way

    def test_no_rows(self):
        desk, words = self.begun(("bench", SIZE, HASTY, 3))
        desk.say("take make x of x in 2")
        words.calls += 1
        words.notes.add(TAKE)
        for row in NO_ROWS:
            self.refused(desk, words, row)
        for row in QUERIES:
            self.said(desk, words, row, words.query(row))

    def test_spoiled_rows(self):
        # What is no line of an event, and no word, is no row; and it changes nothing.
        chance = random.Random(452)
        desk, words = self.begun(("bench", SIZE, HASTY, 4))
        events = {line(event): event for event in machinewords.moves(SIZE, 5)}
        refused = 0
        for _ in range(600):
            row = spoiled(chance.choice([*events, "room", "rule left", "undo", "bars room", *QUERIES]), chance)
            if row in events or row in QUERIES or row.startswith("rule ") or row.split(" ")[0] in ("room", "undo", "bars"):
                continue
            if row.split(" ")[0] in ("take", "run", "right", "wrong") and row[-1:] in tuple("0123456789"):
                continue
            refused += 1
            self.refused(desk, words, row)
        self.assertGreater(refused, 250)
        self.said(desk, words, "log", "-")

    def test_ahead_of_the_first_bench(self):
        desk, words = Desk(), Words()
        self.assertEqual(repr(desk.counts()), "(0, 0)")
        for row in [*NO_ROWS, *QUERIES, "undo", "room", "leave", "rule -", "take make x of x in 2", "bars room", "bars x"]:
            self.refused(desk, words, row)
        # The errors of Bench are raised, and there is no bench still.
        for rooms in ("0", "1"):
            self.refused(desk, words, FIRST.replace("rooms 3", "rooms " + rooms), not_usable("rooms")[0], word="rooms", at=-1)
            self.refused(desk, words, "events")
        self.said(desk, words, FIRST, "ok")
        self.said(desk, words, "events", "0")

    def test_a_second_bench(self):
        desk, words = self.begun(("bench", SIZE, HASTY, 3))
        self.said(desk, words, "room", "3")
        # One that is refused: the desk keeps what it had.
        self.refused(desk, words, FIRST.replace("rooms 3", "rooms 1"), not_usable("rooms")[0], word="rooms", at=-1)
        for row in (FIRST.replace("rooms 3", "rooms 03"), FIRST.replace("x y", "y x"), FIRST + " unless"):
            self.refused(desk, words, row)
        self.said(desk, words, "log", "room")
        self.said(desk, words, FIRST, "ok")
        self.said(desk, words, "log", "-")
        self.said(desk, words, "bench rule; 1 places; 0 guesses; no copies\nrooms 10\nrule -", "ok")
        self.said(desk, words, "leads", "rule@0")
        self.said(desk, words, "bars room", "rooms")
        self.said(desk, words, "take make rule of rule in 9", "-")
        # What was an event of the first bench is none of this one.
        self.refused(desk, words, "take make x in 2")
        self.refused(desk, words, "enter guess")

    def test_names_that_are_rows(self):
        desk, words = self.begun(("bench", (("bars", "log", "undo"), 2, 0, True), HASTY, 4))
        for row, answer in [("take make log of bars undo in 3", "1"), ("enter same undo bars", "2"), ("leads", "bars@0 log@3 undo@0"),
                            ("undo", "enter same undo bars"), ("log", "take make log of bars undo in 3"),
                            ("cells", "bars@bars log@0 undo@undo"), ("bars enter same bars log", "-")]:
            self.said(desk, words, row, answer)
        self.refused(desk, words, "bars")

    def test_side_by_side(self):
        first, second = self.begun(("bench", SIZE, HASTY, 3)), self.begun(("bench", SIZE, HASTY, 3))
        self.said(*first, "room", "3")
        self.said(*second, "events", "0")
        self.refused(*second, "undo", NothingToUndo, steps=0)
        self.said(*first, "undo", "room")
        self.assertEqual((first[0].counts(), second[0].counts()), ((3, 3), (3, 3)))

    def test_as_the_bench(self):
        # What a desk says is what a bench tells that is led in the same way.
        desk = Desk()
        desk.say(FIRST)
        bench = Bench(SIZE, HASTY, 3)
        for event in (TAKE, ("room",), ("rule", ()), ("run", 0), ("leave",)):
            self.assertEqual(desk.say(line(event)), spaced(bench.go(event)))
            self.assertEqual((desk.say("log"), desk.say("table")), (str(bench), " / ".join(bench.table())))
        self.assertEqual(desk.say(row="hands"), spaced(bench.hands_now))
        self.fails(InvalidRow, {"row": Rule}, desk.say, row=Rule)


if __name__ == "__main__":
    unittest.main()
