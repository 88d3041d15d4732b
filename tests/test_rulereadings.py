"""[19]: reading steps, clauses, rules and sizes."""

import itertools
import random
import unittest

from roomsback.errors import InvalidText, NotUsable
from roomsback.rulereadings import clause_read, rule_read, size_read, step_read
from roomsback.ruletexts import clause_text, rule_text, size_text, step_text
from roomsback.steps import steps_of
from tests.lines import column_in, spoiled
from tests.test_kinds import CLAUSES
from tests.test_rules import RULE, not_usable, some_rules
from tests.values import STRANGE, Case

SIZE = (("a", "b"), 2, 1, True)
NO_TEXTS = [thing for thing in STRANGE if not isinstance(thing, str)]


def at(line, column):
    return InvalidText, {"line": line, "column": column}


class StepReading(Case):
    def test_examples(self):
        self.same(("same", "b", "a"), step_read, SIZE, "same b a")
        self.fails(*at(0, 11), step_read, SIZE, "make a of b a")

    def test_written_steps(self):
        for names in (("a",), ("a", "ab", "b"), ("make", "of", "same"), ("guess", "o")):
            for guesses, copies in itertools.product((0, 1), (False, True)):
                size = (names, 1, guesses, copies)
                for step in steps_of(size):
                    self.same(step, step_read, size, step_text(step))

    def test_columns(self):
        chance = random.Random(21)
        for names in (("a",), ("a", "ab", "b"), ("make", "of", "same"), ("ab", "abc", "b"), ("guess", "o")):
            for guesses, copies in itertools.product((0, 1), (False, True)):
                size = (names, 1, guesses, copies)
                lines = sorted(map(step_text, steps_of(size)))
                others = sorted(map(step_text, steps_of((("a", "ab", "b", "of"), 1, 1, True))))
                for _ in range(400):
                    text = spoiled(chance.choice(chance.choice([lines, others])), chance)
                    if text in lines:
                        self.assertEqual(step_text(step_read(size, text)), text)
                    else:
                        self.fails(*at(0, column_in(lines, text)), step_read, size, text)

    def test_edges(self):
        for text, column in [("", 0), ("m", 1), ("make", 4), ("make ", 5), ("make a ", 7), ("make a o", 8),
                             ("make a of", 9), ("make a of ", 10), ("make a of a ", 12), ("make a of a a", 12),
                             ("make a of b ", 11), ("make a\n", 6), ("make  a", 5), ("same a a", 7), ("guess ", 5),
                             ("\nguess", 0), ("Make a", 0), ("make c", 5), ("make a in", 7)]:
            self.fails(*at(0, column), step_read, SIZE, text)
        self.fails(*at(0, 0), step_read, (("a",), 1, 0, True), "same a a")
        self.fails(*at(0, 0), step_read, (("a",), 1, 0, True), "guess")
        self.fails(*at(0, 0), step_read, (("a", "b"), 1, 0, False), "same a b")

    def test_many_names(self):
        names = tuple("".join(signs) for signs in itertools.product("abcde", repeat=3))
        step = ("make", names[0], names[1:])
        self.same(step, step_read, (names, 1, 0, False), step_text(step))
        text = step_text(step) + " eee"
        self.fails(*at(0, len(text) - 4), step_read, (names, 1, 0, False), text)

    def test_wrong_arguments(self):
        for thing in STRANGE:
            self.fails(*not_usable("size"), step_read, thing, None)
            self.fails(*not_usable("size"), step_read, text=None, size=thing)
        for thing in NO_TEXTS:
            self.fails(*not_usable("text"), step_read, SIZE, thing)


class ClauseReading(Case):
    def test_all(self):
        self.same(("made", ("name",)), clause_read, "made unless name")
        for clause in CLAUSES:
            self.same(clause, clause_read, clause_text(clause))
            self.same(clause, clause_read, text=clause_text(clause), line=7)

    def test_columns(self):
        chance = random.Random(22)
        lines = sorted(map(clause_text, CLAUSES))
        for _ in range(3000):
            text = spoiled(chance.choice(lines), chance)
            if text in lines:
                self.assertEqual(clause_text(clause_read(text)), text)
            else:
                self.fails(*at(0, column_in(lines, text)), clause_read, text)
                self.fails(*at(12, column_in(lines, text)), clause_read, text, line=12)

    def test_edges(self):
        for text, column in [("", 0), ("\n", 0), ("le", 2), ("left ", 5), ("left unless", 11), ("left unless ", 12),
                             ("left unless reader ", 18), ("left unless reader name", 18), ("left\nleft", 4),
                             ("left unless name name", 17), ("ri", 2), ("re", 2), ("rx", 1)]:
            self.fails(*at(10 ** 60 - 1, column), clause_read, text, line=10 ** 60 - 1)

    def test_wrong_arguments(self):
        for thing in NO_TEXTS:
            self.fails(*not_usable("text"), clause_read, thing, line=None)
            self.fails(*not_usable("text"), clause_read, line=-1, text=thing)
        for thing in STRANGE:
            if thing != 10 ** 60 - 1:
                self.fails(*not_usable("line"), clause_read, "left", line=thing)
                self.fails(*not_usable("line"), clause_read, "", line=thing)
        with self.assertRaises(TypeError):
            clause_read("left", 0)


class RuleReading(Case):
    def test_written_rules(self):
        self.same((), rule_read, "")
        self.same(RULE, rule_read, rule_text(RULE))
        self.same(tuple(sorted(CLAUSES)), rule_read, text=rule_text(tuple(sorted(CLAUSES))))
        for rule in some_rules(60, 23):
            self.same(rule, rule_read, rule_text(rule))

    def test_examples_and_edges(self):
        self.fails(*at(1, 0), rule_read, "left unless name\ngone")
        self.fails(*at(0, 0), rule_read, "\n")
        self.fails(*at(1, 0), rule_read, "left\n")
        self.fails(*at(1, 0), rule_read, "left\n\nleft")
        self.fails(*at(1, 4), rule_read, "left\nleft")
        self.fails(*at(1, 12), rule_read, "left unless name\nleft unless maker")
        self.fails(*at(1, 0), rule_read, "turned unless reader\nturned")
        self.fails(*at(1, 6), rule_read, "turned unless picture reader\nturned")
        self.fails(*at(2, 2), rule_read, "gone\nleft\nma unless\nleft")

    def test_columns(self):
        chance = random.Random(24)
        for rule in some_rules(400, 25):
            text = spoiled(rule_text(rule), chance)
            lines = text.split("\n") if text else []
            above = None
            for k, line in enumerate(lines):
                possible = {clause_text(clause): clause for clause in CLAUSES if above is None or clause > above}
                if line not in possible:
                    self.fails(*at(k, column_in(sorted(possible), line)), rule_read, text)
                    break
                above = possible[line]
            else:
                self.assertEqual(rule_text(rule_read(text)), text)

    def test_wrong_arguments(self):
        for thing in NO_TEXTS:
            self.fails(*not_usable("text"), rule_read, thing)


class SizeReading(Case):
    def test_written_sizes(self):
        self.same((("x",), 1, 12, True), size_read, "x; 1 places; 12 guesses; copies")
        names = tuple(sorted("".join(signs) for signs in itertools.product("xyz", repeat=4)))
        for names in (("a",), ("a", "b"), ("a", "ab", "b", "zzzzzzzz"), ("zzzzzzz", "zzzzzzzz"), names):
            for places, guesses in itertools.product((1, 10, 305, 10 ** 60 - 1), (0, 1, 100, 10 ** 60 - 1)):
                for copies in (False, True):
                    size = (names, places, guesses, copies)
                    self.same(size, size_read, text=size_text(size))

    def test_edges(self):
        tail = "; 1 places; 0 guesses; copies"
        for text, column in [
                ("", 0), (" ", 0), ("x", 1), ("x ", 2), ("x;", 2), ("x  y", 2), ("x x" + tail, 3), ("b a" + tail, 2),
                ("b b" + tail, 3), ("b ba", 4), ("bb ba", 4), ("abcdefghi" + tail, 8), ("A" + tail, 0),
                ("zzzzzzzz a" + tail, 8), ("zzzzzzzz ", 8), ("a zzzzzzzz ", 10), ("zzzzzzz z" + tail, 9), ("zzzzzzz zzzzzzz" + tail, 15),
                ("zzzzzzza zzzzzzz" + tail, 16), ("zzzzzzza zzzzzzza" + tail, 16), ("zzzzzzza zzzzzzzb" + tail, None),
                ("x; 0 places; 0 guesses; copies", 3), ("x; 01 places; 0 guesses; copies", 3),
                ("x; 1 places; 00 guesses; copies", 14), ("x; 1 places; 01 guesses; copies", 14),
                ("x; -1 places", 3), ("x; 1 place; 0", 10), ("x; 1 places; 0 guesses; cop", 27),
                ("x; 1 places; 0 guesses; copies ", 30), ("x; 1 places; 0 guesses; no  copies", 27),
                ("x; 1 places; 0 guesses; no copies\n", 33), ("x;1 places", 2), ("x\n; 1 places", 1),
                ("x; " + "1" * 61 + " places; 0 guesses; copies", 63),
                ("x; 1 places; " + "2" * 61 + " guesses; copies", 73), ("x; " + "1" * 59, 62), ("x; " + "1" * 60, 63)]:
            if column is None:
                self.assertEqual(size_text(size_read(text)), text)
            else:
                self.fails(*at(0, column), size_read, text)

    def test_columns(self):
        chance = random.Random(26)
        sets = [names for many in range(1, 4) for names in itertools.combinations(("a", "ab", "b", "z"), many)]
        for _ in range(800):
            names = chance.choice(sets)
            size = (names, chance.choice([1, 9, 10]), chance.choice([0, 1, 12]), chance.random() < 0.5)
            text = spoiled(size_text(size), chance)
            column = self.how_far(text)
            if column is None:
                self.assertEqual(size_text(size_read(text)), text)
            else:
                self.fails(*at(0, column), size_read, text)

    def how_far(self, text):
        """The column, found by trying to end each beginning of the text; None for a line."""
        if self.is_line(text):
            return None
        return max(k for k in range(len(text) + 1) if self.can_end(text[:k]))

    def can_end(self, start):
        tails = ["", "copies", "no copies", " guesses; copies", "1 guesses; copies", " places; 1 guesses; copies"]
        tails += ["1 places; 1 guesses; copies", "; 1 places; 1 guesses; copies"]
        tails += ["z" * k + tails[-1] for k in range(1, 9)]
        # Within a word that ends the line, or stands in it, its rest is a tail, too.
        tails += [tail[k:] for tail in tails for k in range(len(tail))]
        return any(self.is_line(start + tail) for tail in tails)

    def is_line(self, text):
        parts = text.split("; ")
        if len(parts) != 4 or parts[3] not in ("copies", "no copies"):
            return False
        names, places, guesses = parts[0].split(" "), parts[1][:-7], parts[2][:-8]
        if parts[1] != places + " places" or parts[2] != guesses + " guesses" or names != sorted(set(names)):
            return False
        if not all(1 <= len(name) <= 8 and set(name) <= set("abcdefghijklmnopqrstuvwxyz") for name in names):
            return False
        numbers = all(number and set(number) <= set("0123456789") for number in (places, guesses))
        return numbers and places[0] != "0" and (guesses == "0" or guesses[0] != "0")

    def test_wrong_arguments(self):
        for thing in NO_TEXTS:
            self.fails(*not_usable("text"), size_read, thing)
        self.fails(NotUsable, {"word": "text", "at": -1}, size_read, text=["x"])


if __name__ == "__main__":
    unittest.main()
