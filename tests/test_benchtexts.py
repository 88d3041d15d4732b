"""[70], [71]: the lines of events and of logs, and what is read of them."""

import random
import unittest

from roomsback.benchlogs import is_log
from roomsback.benchreadings import read_event, read_log
from roomsback.benchtexts import event_line, log_lines
from roomsback.ruletexts import size_text
from tests import benchwords, machinewords
from tests.test_benches import NO_EVENTS, ROOM
from tests.test_benchlogs import FIRST, NO_LOGS, some_events, some_notes
from tests.test_kinds import CLAUSES
from tests.test_machines import HASTY, NO_ROOMS, SIZE
from tests.test_movereadings import SIZES, moves_of
from tests.test_rules import BAD, not_usable, some_rules
from tests.values import STRANGE, Case


def lines(log):
    """[70]: the lines of a log."""
    _, size, rule, rooms = log[0]
    return ["bench " + size_text(size), f"rooms {rooms}", benchwords.line(("rule", rule)), *map(benchwords.line, log[1:])]


class Lines(Case):
    def test_examples(self):
        self.same(["bench x y; 2 places; 1 guesses; copies", "rooms 3", "rule turned", "leave"], log_lines, (FIRST, ("leave",)))
        self.same("rule gone unless name; left", event_line, ("rule", (("gone", ("name",)), ("left", ()))))

    def test_events(self):
        for size in SIZES:
            for event in [*moves_of(size, (0, 9, 10 ** 60 - 1)), ROOM, ("rule", ())]:
                self.same(benchwords.line(event), event_line, event)
                self.same(event, read_event, size, event_line(event=event))
        for rule in [(), tuple(sorted(CLAUSES)), *[(clause,) for clause in CLAUSES], *some_rules(60, 371)]:
            self.same(benchwords.line(("rule", rule)), event_line, ("rule", rule))
            self.same(("rule", rule), read_event, SIZE, event_line(("rule", rule)))
        self.same("room", event_line, ROOM)
        self.same("rule -", event_line, ("rule", ()))

    def test_events_of_any_size(self):
        self.same("take make z of a zzzzzzzz in 3", event_line, ("take", ("make", "z", ("a", "zzzzzzzz")), 3))
        self.same("enter guess", event_line, ("enter", ("guess",)))
        self.same("enter same rule room", event_line, ("enter", ("same", "rule", "room")))

    def test_logs_there_and_back(self):
        for notes in some_notes(100, 372):
            log = notes.log()
            expected = lines(log)
            self.same(expected, log_lines, log)
            self.same(expected, log_lines, log=log)
            self.same(log, read_log, log_lines(log))

    def test_logs_that_cannot_be_replayed(self):
        chance = random.Random(373)
        for size in SIZES + machinewords.SIZES:
            for rule in [(), *some_rules(3, 374)]:
                # What read_log returns may have too few rooms.
                rooms = chance.choice([0, 1, 3, 10, 10 ** 60 - 1])
                log = (("bench", size, rule, rooms), *some_events(size, 3, 6, chance))
                self.assertIs(is_log(log), rooms >= len(size[0]))
                self.same(lines(log), log_lines, log)
                self.same(log, read_log, log_lines(log))

    def test_a_list_of_its_own(self):
        first = log_lines((FIRST,))
        first.append("")
        self.same(["bench x y; 2 places; 1 guesses; copies", "rooms 3", "rule turned"], log_lines, (FIRST,))

    def test_wrong_arguments(self):
        for thing in NO_EVENTS:
            # A step of z is one of another size.
            if repr(thing) != repr(("take", ("make", "z", ()), 2)):
                self.fails(*not_usable("event"), event_line, thing)
                self.fails(*not_usable("event"), event_line, event=thing)
            self.fails(*not_usable("log"), log_lines, (FIRST, thing))
            self.fails(*not_usable("log"), log_lines, log=(FIRST, ROOM, thing, ROOM))
        for thing in NO_LOGS:
            self.fails(*not_usable("log"), log_lines, thing)
            self.fails(*not_usable("log"), log_lines, log=thing)
        for thing in STRANGE:
            self.fails(*not_usable("log"), log_lines, (("bench", thing, HASTY, 3),))
        for thing in BAD:
            self.fails(*not_usable("log"), log_lines, (("bench", SIZE, thing, 3),))
        for thing in NO_ROOMS:
            if thing.__class__ is not int or thing < 0:
                self.fails(*not_usable("log"), log_lines, (("bench", SIZE, HASTY, thing), ROOM))


if __name__ == "__main__":
    unittest.main()
