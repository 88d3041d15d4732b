"""[19], [30], [60], [61], [70], [71]: reading the lines of events and of logs."""

import random
import unittest

from roomsback.benchevents import is_event
from roomsback.benchreadings import read_event, read_log
from roomsback.rulechanges import full_rule
from roomsback.ruletexts import clause_text, size_text
from tests import test_rulereadings
from tests.lines import column_in, spoiled
from tests.test_kinds import CLAUSES
from tests.test_movereadings import NO_TEXTS, NUMBERS, SIZES, at, line_of, moves_of
from tests.test_rules import not_usable, some_rules
from tests.values import STRANGE, Case

SIZE, HASTY = (("x", "y"), 2, 1, True), (("turned", ()),)
LOG = (("bench", SIZE, HASTY, 3), ("leave",))
LINES = ["bench x y; 2 places; 1 guesses; copies", "rooms 3", "rule turned", "leave"]
BY_LINE = {clause_text(clause): clause for clause in CLAUSES}
GREATEST = max(CLAUSES)


def event_line(event):
    """The line of an event, as [70] writes it."""
    if event[0] == "rule":
        return "rule " + ("; ".join(map(clause_text, event[1])) or "-")
    return "room" if event == ("room",) else line_of(event)


def log_lines(log):
    """The lines of a log, as [70] writes them."""
    _, size, rule, rooms = log[0]
    return ["bench " + size_text(size), f"rooms {rooms}", event_line(("rule", rule)), *map(event_line, log[1:])]


def begins_a_rule(text):
    """Whether the line of some rule begins so."""
    if not text.startswith("rule ") or text == "rule -":
        return "rule -".startswith(text)
    above = None
    parts = text[5:].split("; ")
    for part in parts[:-1]:
        clause = BY_LINE.get(part)
        if clause is None or above is not None and clause <= above:
            return False
        above = clause
    greater = [line for line, clause in BY_LINE.items() if above is None or clause > above]
    whole = parts[-1][:-1]
    if text.endswith(";") and whole in greater:
        return BY_LINE[whole] < GREATEST
    return any(line.startswith(parts[-1]) for line in greater)


def rule_of(text):
    """The rule of a line, None if it is none."""
    if text == "rule -":
        return ()
    clauses = [BY_LINE.get(part) for part in text[5:].split("; ")]
    if not text.startswith("rule ") or None in clauses or clauses != sorted(set(clauses)):
        return None
    return tuple(clauses)


def longest(text, begins):
    return max(k for k in range(len(text) + 1) if begins(text[:k]))


def begins_rooms(text):
    digits = text[6:]
    number = len(digits) <= 60 and all(sign in "0123456789" for sign in digits) and not (digits[:1] == "0" and digits != "0")
    return "rooms ".startswith(text) or text.startswith("rooms ") and number


def size_column(text):
    """The column of the first line of a log, None if it is one."""
    if not text.startswith("bench "):
        return longest(text, "bench ".startswith)
    column = test_rulereadings.SizeReading("how_far").how_far(text[6:])
    return None if column is None else 6 + column


class Words:
    """The lines of the events of a size, with numbers below those of NUMBERS."""

    def __init__(self, size):
        self.by_line = {line_of(move): move for move in moves_of(size, NUMBERS)}
        self.by_line["room"] = ("room",)
        self.lines = sorted(self.by_line)

    def event(self, text):
        rule = rule_of(text)
        return ("rule", rule) if rule is not None else self.by_line.get(text)

    def column(self, text):
        return max(column_in(self.lines, text), longest(text, begins_a_rule))

    def has_great_numbers(self, text):
        digits = "".join(sign if sign in "0123456789" else " " for sign in text).split()
        return any(len(word) > 2 for word in digits)


def some_events(size, many, chance):
    """Events of a size, possible or not."""
    moves = moves_of(size, range(12))
    rules = [(), full_rule(), *some_rules(4, chance.random())]
    return [chance.choice([("room",), ("rule", chance.choice(rules)), *[chance.choice(moves)] * 4]) for _ in range(many)]


class Events(Case):
    def test_examples(self):
        self.same(("rule", ()), read_event, SIZE, "rule -")
        self.same(("rule", (("gone", ("name",)), ("left", ()))), read_event, SIZE, "rule gone unless name; left")
        self.fails(*at(0, 11), read_event, SIZE, "rule left; gone")

    def test_written_events(self):
        every = tuple(sorted(CLAUSES))
        for size in SIZES:
            for event in [*moves_of(size, (0, 7, 10 ** 60 - 1)), ("room",)]:
                self.assertTrue(is_event(size, event))
                self.same(event, read_event, size, event_line(event))
                self.same(event, read_event, text=event_line(event), size=size)
        for rule in [(), full_rule(), every, *[(clause,) for clause in CLAUSES], *some_rules(60, 151)]:
            self.same(("rule", rule), read_event, SIZE, event_line(("rule", rule)))

    def test_columns(self):
        chance = random.Random(152)
        refused = 0
        for size in SIZES:
            words = Words(size)
            others = Words((("a", "in", "of", "rule"), 1, 1, True))
            for _ in range(500):
                event = chance.choice(some_events(size, 1, chance) + [others.by_line[chance.choice(others.lines)]])
                text = spoiled(event_line(event), chance)
                if words.has_great_numbers(text):
                    continue
                expected = words.event(text)
                if expected is not None:
                    self.same(expected, read_event, size, text)
                else:
                    refused += 1
                    self.fails(*at(0, words.column(text)), read_event, size, text)
        self.assertGreater(refused, 1000)

    def test_columns_of_rules(self):
        chance = random.Random(153)
        words = Words(SIZE)
        rules = some_rules(300, 154)
        for rule in rules:
            parts = list(map(clause_text, rule))
            way = chance.randrange(4)
            if way == 0 and parts:
                del parts[chance.randrange(len(parts))]
            elif way == 1:
                parts.insert(chance.randrange(len(parts) + 1), chance.choice(list(BY_LINE)))
            elif way == 2:
                chance.shuffle(parts)
            text = "rule " + "; ".join(parts)
            text = spoiled(text, chance) if way == 3 else text
            expected = words.event(text)
            if expected is not None:
                self.same(expected, read_event, SIZE, text)
            else:
                self.fails(*at(0, words.column(text)), read_event, SIZE, text)

    def test_edges(self):
        for text, column in [
                ("", 0), ("\n", 0), ("r", 1), ("ro", 2), ("roo", 3), ("rooms", 4), ("room ", 4), ("room\n", 4),
                ("rule", 4), ("rule ", 5), ("rules", 4), ("rule --", 6), ("rule -;", 6), ("rule - ", 6),
                ("rule -; left", 6), ("rule left; -", 11), ("rule left;", 10), ("rule left; ", 11),
                ("rule left;left", 10), ("rule left; left", 15), ("rule left; left unless ", 23),
                ("rule left unless name; left", 27), ("rule left unless name; left unless maker", 35),
                ("rule turned; turned unless reader; ", 33), ("rule turned unless reader;", 25),
                ("rule turned unless reader; turned", 25), ("rule turned unless picture; turned", 34),
                ("rule turned unless picture; turned unless name", 42), ("rule  left", 5), ("rule left ; made", 10),
                ("Rule left", 0), ("bench", 0), ("undo", 0), ("run 0; leave", 5), ("rule left unless", 16)]:
            self.fails(*at(0, column), read_event, SIZE, text)
        self.same(("rule", (("left", ()), ("left", ("name",)))), read_event, SIZE, "rule left; left unless name")

    def test_words_of_the_size(self):
        names = (("bench", "room", "rule"), 1, 0, False)
        event = ("take", ("make", "rule", ("room", "rule")), 0)
        self.same(event, read_event, names, "take make rule of room rule in 0")
        for text in ("enter guess", "enter same room rule", "e"):
            self.fails(*at(0, 0), read_event, names, text)

    def test_wrong_arguments(self):
        for thing in STRANGE:
            self.fails(*not_usable("size"), read_event, thing, None)
            self.fails(*not_usable("size"), read_event, text=None, size=thing)
        for thing in NO_TEXTS:
            self.fails(*not_usable("text"), read_event, SIZE, thing)


class Logs(Case):
    def test_examples(self):
        self.same(LOG, read_log, LINES)
        self.same(LINES, log_lines, LOG)

    def test_written_logs(self):
        chance = random.Random(155)
        for size in SIZES + [(("a", "b", "zzzzzzzz"), 10 ** 60 - 1, 10 ** 60 - 1, False)]:
            for rule in [(), full_rule(), *some_rules(8, 156)]:
                # Too few rooms are as good.
                rooms = chance.choice([0, 1, 9, 10, 10 ** 60 - 1])
                log = (("bench", size, rule, rooms), *some_events(size, chance.randrange(12), chance))
                self.same(log, read_log, log_lines(log))
                self.same(log, read_log, lines=log_lines(log))

    def test_changed_logs(self):
        chance = random.Random(157)
        refused = 0
        for _ in range(500):
            size = chance.choice(SIZES)
            log = (("bench", size, some_rules(1, chance.random())[0], chance.randrange(12)),
                   *some_events(size, chance.randrange(6), chance))
            lines = self.changed(log_lines(log), chance)
            expected = self.first_fault(lines)
            if expected is None:
                self.assertEqual(log_lines(read_log(lines)), lines)
            elif expected != "any":
                refused += 1
                self.fails(*at(*expected), read_log, lines)
        self.assertGreater(refused, 250)

    def changed(self, lines, chance):
        """The lines with one spoiled, left out, put in, exchanged or cut."""
        k, other = chance.randrange(len(lines)), chance.randrange(len(lines))
        way = chance.randrange(6)
        if way in (0, 1):
            line = spoiled(lines[k], chance).replace("\n", " ")
            return lines[:k] + [line] + lines[k + 1:]
        if way == 2:
            return lines[:k] + lines[k + 1:]
        if way == 3:
            return lines[:k] + [chance.choice([lines[other], "", "room", "rule -", "rooms 2"])] + lines[k:]
        if way == 4:
            lines[k], lines[other] = lines[other], lines[k]
            return lines
        return lines[:k]

    def first_fault(self, lines):
        """Line and column of the error, None if there is none; any if the words of the tests are too few."""
        for k, line in enumerate(lines):
            if k == 0:
                column = size_column(line)
            elif k == 1:
                column = None if begins_rooms(line) and line[6:] else longest(line, begins_rooms)
            elif k == 2:
                column = None if rule_of(line) is not None else longest(line, begins_a_rule)
            else:
                size = read_log(lines[:3])[0][1]
                words = Words(size) if len(size[0]) < 6 else None
                if words is None or words.has_great_numbers(line):
                    return "any"
                column = None if words.event(line) is not None else words.column(line)
            if column is not None:
                return k, column
        return None if len(lines) >= 3 else (len(lines), 0)

    def test_edges(self):
        self.fails(*at(0, 0), read_log, [])
        self.fails(*at(1, 0), read_log, LINES[:1])
        self.fails(*at(2, 0), read_log, LINES[:2])
        self.same((LOG[0],), read_log, LINES[:3])
        for k, line, column in [
                (0, "", 0), (0, "bench", 5), (0, "bench ", 6), (0, "bench x; 0 places", 9), (0, LINES[1], 0),
                (0, "bench  x", 6), (0, LINES[0] + " ", 38), (0, "bench y x; 1 places", 8), (0, "rule -", 0),
                (1, "", 0), (1, "rooms", 5), (1, "rooms ", 6), (1, "rooms 03", 7), (1, "rooms -1", 6),
                (1, "rooms " + "1" * 61, 66), (1, "rooms 3 ", 7), (1, "room", 4), (1, "rule -", 1), (1, "rooms x", 6),
                (2, "", 0), (2, "room", 1), (2, "run 0", 2), (2, "leave", 0), (2, "rule", 4), (2, "rule left; gone", 11),
                (3, "", 0), (3, "rooms 3", 4), (3, "take make z in 2", 10), (3, "bench", 0), (3, "right 0 ", 7)]:
            lines = LINES[:k] + [line] + LINES[k + 1:]
            self.fails(*at(k, column), read_log, lines)
            # The first line that is not possible is told, whatever comes behind it.
            self.fails(*at(k, column), read_log, lines + ["", "x"])
            self.fails(*at(k, column), read_log, lines[:k + 1])
        self.fails(*at(4, 0), read_log, LINES + [""])
        self.same((("bench", SIZE, HASTY, 0),), read_log, [LINES[0], "rooms 0", LINES[2]])

    def test_wrong_arguments(self):
        for thing in STRANGE:
            if not isinstance(thing, list) or not all(isinstance(line, str) for line in thing):
                self.fails(*not_usable("lines"), read_log, thing)
            if not isinstance(thing, str) or "\n" in thing:
                self.fails(*not_usable("lines"), read_log, [*LINES, thing])
                self.fails(*not_usable("lines"), read_log, lines=["x", thing])
        for thing in (tuple(LINES), "\n".join(LINES), ["\n".join(LINES)], LINES[:2] + [LINES[2] + "\n"], ["\n"], [LINES]):
            self.fails(*not_usable("lines"), read_log, thing)


if __name__ == "__main__":
    unittest.main()
