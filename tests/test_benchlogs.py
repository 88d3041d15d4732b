"""[68], [69]: logs of benches, and benches that are replayed."""

import random
import unittest

from roomsback.benches import Bench
from roomsback.benchlogs import is_log, replayed
from roomsback.errors import InvalidEvent
from tests import benchwords, machinewords, runwords
from tests.benchwords import an_event, told
from tests.test_benches import GUESS, LEAVE, NO_EVENTS, OBJECTS, ROOM
from tests.test_machines import HASTY, NO_ROOMS, SIZE, TAKE
from tests.test_rules import BAD, not_usable
from tests.values import STRANGE, Case

FIRST = ("bench", SIZE, HASTY, 3)
NO_LOGS = [*STRANGE, (), *OBJECTS, FIRST, [FIRST], (list(FIRST),), (FIRST[1:],), ((*FIRST, ()),), (("Bench", *FIRST[1:]),),
           ((b"bench", *FIRST[1:]),), ((SIZE, "bench", HASTY, 3),), (TAKE,), (TAKE, FIRST), (FIRST, FIRST),
           (("bench", SIZE, 3, HASTY),), (("bench", HASTY, SIZE, 3),), ("bench", SIZE, HASTY, 3, ROOM), (("bench",),)]


def some_events(size, rooms, many, chance):
    """Events of a size, possible or not."""
    moves = machinewords.moves(size, rooms)
    rules = [(), HASTY, runwords.FULL, machinewords.a_rule(chance)]
    return [chance.choice([ROOM, ("rule", chance.choice(rules)), *[chance.choice(moves)] * 4]) for _ in range(many)]


def some_notes(many, seed):
    """Notes of benches that were led, and taken back now and then."""
    chance = random.Random(seed)
    found = []
    for _ in range(many):
        size = chance.choice(machinewords.SIZES)
        rooms = min(9, len(size[0]) + chance.randrange(5))
        notes = benchwords.Notes(size, chance.choice([(), HASTY, runwords.FULL, machinewords.a_rule(chance)]), rooms)
        for _ in range(chance.choice([0, 3, 15, 60])):
            event = an_event(notes, chance)
            if notes.reason(event) is None:
                notes.add(event)
            elif len(notes.past) > 1 and chance.random() < 0.3:
                notes.past.pop()
        found.append(notes)
    return found


class Logs(Case):
    def test_logs_of_benches(self):
        for notes in some_notes(120, 361):
            log = notes.log()
            bench = Bench(*log[0][1:])
            self.assertEqual(repr(bench.log()), repr(log[:1]))
            bench.do_all(*log[1:])
            self.assertEqual(repr(bench.log()), repr(log))
            self.same(True, is_log, log)
            other = replayed(log)
            self.assertIs(other.__class__, Bench)
            self.assertIs(other == bench, True)
            self.assertEqual(repr(told(other)), repr(notes.state()))
            self.assertEqual(repr(other.counts()), "(0, 0)")
            # [69]: a log without its last event is the log behind undo.
            if len(log) > 1:
                self.assertEqual(bench.undo(), log[-1])
                self.assertEqual(bench.log(), log[:-1])
                self.assertIs(replayed(log[:-1]) == bench, True)
                self.assertIs(other == bench, False)

    def test_the_beginning_is_told(self):
        bench = Bench(SIZE, HASTY, 3)
        bench.do_all(ROOM, ("rule", ()))
        self.same((FIRST, ROOM, ("rule", ())), bench.log)
        with bench.trial():
            bench.undo()
            bench.go(GUESS)
            self.same((FIRST, ROOM, GUESS), bench.log)
        self.same((FIRST, ROOM, ("rule", ())), bench.log)

    def test_each_time_a_new_bench(self):
        first, second = replayed((FIRST, ROOM)), replayed(log=(FIRST, ROOM))
        self.assertIs(first == second, True)
        first.undo()
        self.assertEqual((len(first), len(second), first.counts(), second.counts()), (0, 1, (1, 1), (0, 0)))

    def test_events_possible_or_not(self):
        chance = random.Random(362)
        reasons = []
        for _ in range(300):
            size = chance.choice(machinewords.SIZES)
            rooms = len(size[0]) + chance.randrange(3)
            log = (("bench", size, HASTY, rooms), *some_events(size, rooms + 1, chance.randrange(9), chance))
            self.same(True, is_log, log)
            notes = benchwords.Notes(size, HASTY, rooms)
            for event in log[1:]:
                reason = notes.reason(event)
                if reason is not None:
                    break
                notes.add(event)
            else:
                self.assertEqual(repr(told(replayed(log))), repr(notes.state()))
                continue
            reasons.append(reason)
            self.fails(InvalidEvent, {"event": event, "reason": reason}, replayed, log)
        for reason in ("move", "same"):
            self.assertGreater(reasons.count(reason), 10)

    def test_the_bounds(self):
        rules = (("rule", ()), ("rule", HASTY)) * 20
        self.same(True, is_log, (FIRST, *rules, ROOM))
        self.assertEqual(len(replayed((FIRST, *rules))), 40)
        self.fails(InvalidEvent, {"event": ROOM, "reason": "full"}, replayed, (FIRST, *rules, ROOM, LEAVE))
        self.fails(InvalidEvent, {"event": ROOM, "reason": "rooms"}, replayed, (FIRST, *[ROOM] * 7))
        self.assertEqual(replayed((FIRST, *[ROOM] * 6)).rooms_now, 9)

    def test_no_logs(self):
        things = list(NO_LOGS)
        things += [(("bench", thing, HASTY, 3),) for thing in STRANGE]
        things += [(("bench", SIZE, thing, 3), ROOM) for thing in BAD]
        things += [(("bench", SIZE, HASTY, thing),) for thing in NO_ROOMS]
        things += [(FIRST, event) for event in NO_EVENTS] + [(FIRST, ROOM, event, LEAVE) for event in NO_EVENTS]
        # A step of another size, and lists.
        things += [(FIRST, ("enter", ("same", "x", "z"))), [FIRST, ROOM], (("bench", (("x",), 2, 0, True), HASTY, 3), GUESS)]
        for thing in things:
            self.same(False, is_log, thing)
            self.same(False, is_log, thing=thing)
            self.fails(*not_usable("log"), replayed, thing)
            self.fails(*not_usable("log"), replayed, log=thing)


if __name__ == "__main__":
    unittest.main()
