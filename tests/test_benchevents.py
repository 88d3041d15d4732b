"""[60], [61]: what is an event of a size."""

import unittest

from roomsback.benchevents import is_event
from roomsback.machines import is_move
from roomsback.rulechanges import full_rule
from tests import machinewords
from tests.test_movereadings import SIZES, moves_of
from tests.test_rules import not_usable, some_rules
from tests.values import STRANGE, Case


class Events(Case):
    def test_moves(self):
        every = moves_of((("a", "in", "of", "x", "y"), 1, 1, True), (0, 10 ** 60 - 1))
        for size in SIZES + machinewords.SIZES:
            for move in every:
                self.same(is_move(size, move), is_event, size, move)
                self.same(False, is_event, size, list(move))
                self.same(False, is_event, size, (*move, 0))
            for move in moves_of(size, (0, 1)):
                self.same(True, is_event, thing=move, size=size)

    def test_rules(self):
        for size in SIZES:
            for rule in [(), full_rule(), *some_rules(10, 71)]:
                self.same(True, is_event, size, ("rule", rule))
                for thing in (["rule", rule], ("rule", list(rule)), ("rule", rule, ()), ("rules", rule), rule):
                    self.same(False, is_event, size, thing)
            for thing in STRANGE:
                self.same(False, is_event, size, ("rule", thing))
        self.same(False, is_event, SIZES[0], ("rule",))
        self.same(False, is_event, SIZES[0], ("rule", (("left", ()), ("gone", ()))))

    def test_rooms(self):
        for size in SIZES:
            self.same(True, is_event, size, ("room",))
            for thing in (("room", 1), ["room"], "room", ("rooms",), ("room", ()), (("room",),)):
                self.same(False, is_event, size, thing)

    def test_nothing_else(self):
        for thing in [*STRANGE, ()]:
            self.same(False, is_event, SIZES[0], thing)

    def test_size_is_refused(self):
        for thing in STRANGE:
            self.fails(*not_usable("size"), is_event, thing, None)
            self.fails(*not_usable("size"), is_event, thing=("room",), size=thing)


if __name__ == "__main__":
    unittest.main()
