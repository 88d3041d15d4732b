"""[2], [3], [4], [12]: what is a name, a room, needs, a clause, a rule, a size, a step."""

import itertools
import unittest

from roomsback.errors import NotUsable
from roomsback.kinds import is_clause, is_name, is_needs, is_room, is_rule, is_size, is_step
from roomsback.rulechanges import full_rule
from tests.values import STRANGE, Case

NEEDS = ("maker", "name", "picture", "reader")
MOMENTS = ("gone", "left", "made", "read", "right", "turned")
SETS = [tests for many in range(5) for tests in itertools.combinations(NEEDS, many)]
CLAUSES = [(moment, tests) for moment in MOMENTS for tests in SETS]


class Kinds(Case):
    def test_strange_values_are_nothing(self):
        size = (("a", "b"), 2, 1, True)
        for thing in STRANGE:
            for call in (is_name, is_clause, is_rule, is_size):
                self.same(False, call, thing)
            self.same(False, is_step, size, thing)
            self.same(thing == 10 ** 60 - 1, is_room, thing)
            self.same(False, is_needs, thing)

    def test_names(self):
        for name in ("a", "z", "left", "guess", "abcdefgh", "zzzzzzzz"):
            self.same(True, is_name, name)
        for name in ("abcdefghi", "a1", "a_", "a b", "a\n", "aB", ("a",), ["a"], 1):
            self.same(False, is_name, name)

    def test_rooms(self):
        for room in (0, 1, 2, 10 ** 60 - 1):
            self.same(True, is_room, room)
        for room in (True, False, -1, "0", (0,), [0], None):
            self.same(False, is_room, room)

    def test_needs(self):
        for many in range(6):
            for needs in itertools.product(NEEDS, repeat=min(many, 3)):
                self.same(list(needs) == sorted(set(needs)), is_needs, needs)
                self.same(False, is_needs, list(needs))
        self.same(True, is_needs, NEEDS)
        self.same(True, is_needs, ())
        for needs in (("made",), ("maker", 1), ("maker", None), "maker", ("maker", ["name"])):
            self.same(False, is_needs, needs)

    def test_clauses(self):
        for clause in CLAUSES:
            self.same(True, is_clause, clause)
            self.same(False, is_clause, list(clause))
            self.same(False, is_clause, (clause[0], list(clause[1])))
            self.same(False, is_clause, (clause[0] + "s", clause[1]))
            self.same(len(clause[1]) < 2, is_clause, (clause[0], clause[1][::-1]))

    def test_rules(self):
        self.same(True, is_rule, ())
        self.same(True, is_rule, full_rule())
        self.same(True, is_rule, tuple(sorted(CLAUSES)))
        self.same(False, is_rule, tuple(sorted(CLAUSES, reverse=True)))
        for first, second in itertools.product(CLAUSES, repeat=2):
            self.same(first < second, is_rule, (first, second))
        self.same(False, is_rule, (CLAUSES[0], None))
        self.same(False, is_rule, [CLAUSES[0]])

    def test_sizes(self):
        many = tuple(sorted("".join(signs) for signs in itertools.product("abc", repeat=5)))
        for names in (("a",), ("a", "b"), ("a", "ab", "b"), ("abcdefgh",), many):
            for places in (1, 4, 10 ** 60 - 1):
                for guesses in (0, 2, 10 ** 60 - 1):
                    for copies in (True, False):
                        self.same(True, is_size, (names, places, guesses, copies))
                        self.same(False, is_size, [names, places, guesses, copies])
                        self.same(False, is_size, (list(names), places, guesses, copies))
        for size in [(("a",), "1", 0, True), (("a", 1), 1, 0, True), ("a", 1, 0, True), (("a",), 1, 0, 1)]:
            self.same(False, is_size, size)

    def test_steps(self):
        makes = [("make", "a", ()), ("make", "a", ("a",)), ("make", "b", ("a", "b"))]
        sames = [("same", "a", "b"), ("same", "b", "a")]
        for guesses, copies in itertools.product((0, 1, 2), (False, True)):
            size = (("a", "b"), 1, guesses, copies)
            for step in makes:
                self.same(True, is_step, size, step)
            for step in sames:
                self.same(copies, is_step, size, step)
            self.same(guesses >= 1, is_step, size, ("guess",))
        for step in [*makes[2:], *sames]:
            self.same(False, is_step, (("a",), 1, 1, True), step)
        for step in [("make", "c", ()), ("make", "a", ("c",)), ("make", "a", ("a", "c")), ("same", "a", "c"),
                     ("same", "c", "a"), ("guess", ()), list(makes[0]), list(sames[0])]:
            self.same(False, is_step, (("a", "b"), 1, 1, True), step)

    def test_size_is_refused_first(self):
        for size in STRANGE:
            self.fails(NotUsable, {"word": "size", "at": -1}, is_step, size, ("guess",))
            self.fails(NotUsable, {"word": "size", "at": -1}, is_step, thing=None, size=size)
        self.same(True, is_step, thing=("guess",), size=(("a",), 1, 1, False))


if __name__ == "__main__":
    unittest.main()
