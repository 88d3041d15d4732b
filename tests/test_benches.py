"""[60] to [67]: benches that are led, beside notes that the tests keep by themselves."""

import random
import unittest

from roomsback.benches import Bench
from roomsback.benchlogs import replayed
from roomsback.errors import Broken, InvalidEvent, NothingToUndo
from roomsback.houses import House
from roomsback.machines import first_stand
from roomsback.results import plain_cells, results_read
from roomsback.ruleclasses import Clause, Rule
from roomsback.runs import stand_behind
from tests import benchwords, machinewords, runwords
from tests.benchwords import an_event, told
from tests.test_machines import HASTY, NO_ROOMS, SIZE, TAKE
from tests.test_rules import BAD, not_usable
from tests.test_runs import FAST
from tests.values import STRANGE, Case

LISTED = """size_now rule_now rooms_now stand_now moves_now hands_now shows_now late_now results cells alarms table given
    verdict go set_rule add_room barred tried undo do_all trial counts log __iadd__ __getitem__ __contains__ __iter__
    __len__ __eq__ __str__""".split()
OBJECTS = [Clause("left"), Rule(HASTY), House(SIZE, HASTY, 3), Bench(SIZE, HASTY, 3)]
NO_EVENTS = [*STRANGE, (), ("room", 1), ("rule",), ("rule", None), ("rule", [("left", ())]), ("rule", (("left", ()),) * 2),
             ["room"], "room", ("rooms",), ("run", True), ("run", -1), ("take", TAKE[1]), ("take", TAKE[1], True), list(TAKE),
             ("take", ("make", "z", ()), 2), ("enter", TAKE[1]), ("leave", 0), ("bench", SIZE, HASTY, 3), ("rule", Rule(HASTY)),
             *OBJECTS]
GUESS, LEAVE, ROOM = ("enter", ("guess",)), ("leave",), ("room",)


def refused(event, reason):
    return InvalidEvent, {"event": event, "reason": reason}


class BenchCase(Case):
    def agrees(self, bench, notes):
        """All that is told is as in the notes, and asking changes and counts nothing."""
        expected = notes.state()
        for _ in range(2):
            self.assertEqual(repr(told(bench)), repr(expected))
        self.assertEqual(repr(bench.counts()), repr((notes.calls, notes.calls)))

    def breaks(self, call, event, reason):
        """The call raises InvalidEvent of this very event."""
        with self.assertRaises(InvalidEvent) as caught:
            call()
        self.assertIs(caught.exception.__class__, InvalidEvent)
        self.assertEqual(caught.exception.reason, reason)
        return caught.exception


class Led(BenchCase):
    def test_examples(self):
        bench = Bench(SIZE, HASTY, 3)
        self.assertEqual([bench.go(TAKE), list(bench.alarms()), bench.go(("take", ("make", "y", ()), 0)), bench.hands_now],
                         [(0,), [(0, ("reader",))], (1,), (1,)])
        self.assertEqual([bench.do_all(("run", 1), ("run", 0), LEAVE), bench.shows_now, bench.results(), bench.cells(),
                          bench.given(0)], [3, True, ((0, (1,), ("x",)),), {"x": 0, "y": 1}, (0,)])
        self.assertEqual([bench.verdict(), bench.set_rule(()), bench.verdict(), bench.add_room(),
                          bench.barred(("rule", ())), bench["x"], 3 in bench],
                         ["hands", (), "loses", (3,), "same", 2, True])

    def test_listed_in_the_class_itself(self):
        for name in LISTED:
            self.assertIn(name, vars(Bench))
        self.assertEqual((Bench.MOST, Bench.ROOMS), (40, 9))

    def test_at_first(self):
        for size in machinewords.SIZES:
            for rooms in range(len(size[0]), 10):
                bench = Bench(rooms=rooms, rule=HASTY, size=size)
                self.agrees(bench, benchwords.Notes(size, HASTY, rooms))
                self.assertEqual(bench.stand_now, first_stand(size, rooms))

    def test_led_along_drawn_ways(self):
        chance = random.Random(351)
        used = {}
        for _ in range(120):
            size = chance.choice(machinewords.SIZES)
            rooms = min(9, len(size[0]) + chance.randrange(6))
            rule = chance.choice([(), HASTY, runwords.FULL, machinewords.a_rule(chance)])
            bench, notes = Bench(size, rule, rooms), benchwords.Notes(size, rule, rooms)
            for _ in range(chance.choice([5, 20, 90])):
                way = self.one_call(bench, notes, chance)
                used[way] = used.get(way, 0) + 1
            self.agrees(bench, notes)
        for way in ("done", "shape", "full", "move", "same", "rooms", "undo", "nothing", "kept", "back", "all", "trial",
                    "left by an error"):
            self.assertGreater(used.get(way, 0), 4, way)

    def one_call(self, bench, notes, chance):
        """One of the ways that [65] names, done with both; returns what it was."""
        way = chance.choice(["one"] * 12 + ["undo"] * 2 + ["all", "trial", "tried", "look"])
        if way == "one":
            return self.one_event(bench, notes, chance)
        if way == "undo":
            notes.calls += 1
            if len(notes.past) == 1:
                self.fails(NothingToUndo, {"steps": 0}, bench.undo)
                return "nothing"
            self.assertEqual(bench.undo(), notes.past.pop()["event"])
        elif way == "all":
            return self.several(bench, notes, chance)
        elif way == "trial":
            return self.a_trial(bench, notes, chance)
        elif way == "tried":
            self.look_ahead(bench, notes, chance)
        else:
            self.agrees(bench, notes)
        return way

    def one_event(self, bench, notes, chance):
        event = chance.choice(NO_EVENTS) if chance.random() < 0.1 else an_event(notes, chance)
        reason = notes.reason(event)
        self.assertEqual(bench.barred(event), reason)
        calls = [lambda: bench.go(event), lambda: self.added(bench, event)]
        if event.__class__ is tuple and len(event) == 2 and event[0] == "rule":
            calls = [*calls, lambda: bench.set_rule(event[1]), lambda: bench.set_rule(rule=event[1]),
                     lambda: setattr(bench, "rule_now", event[1])]
        elif event == ROOM:
            calls = [*calls, bench.add_room]
        k = chance.randrange(len(calls))
        notes.calls += 1
        if reason is None:
            expected = notes.add(event)
            answer = calls[k]()
            # An assignment, and a +=, give no answer.
            self.assertEqual(answer, None if k == 1 or k == 4 else expected)
            return "done"
        error = self.breaks(calls[k], event, reason)
        if k < 2:
            self.assertIs(error.event, event)
        else:
            self.assertEqual(repr(error.event), repr(event))
        return reason

    def added(self, bench, event):
        same = bench
        bench += event
        self.assertIs(bench, same)

    def events_ahead(self, notes, chance):
        """Events, of which only the last one may be impossible, and the notes behind those that are possible."""
        ahead = benchwords.Notes(notes.size, (), 9)
        ahead.past = list(notes.past)
        events = []
        for _ in range(chance.randrange(7)):
            event = chance.choice(NO_EVENTS) if chance.random() < 0.1 else an_event(ahead, chance)
            events.append(event)
            if ahead.reason(event) is not None:
                return events, ahead, ahead.reason(event)
            ahead.add(event)
        return events, ahead, None

    def several(self, bench, notes, chance):
        events, ahead, reason = self.events_ahead(notes, chance)
        more = chance.choice([{}, {"keep": True}, {"keep": False}])
        notes.calls += 1
        if reason is None:
            self.same(len(events), bench.do_all, *events, **more)
            notes.past = ahead.past
            return "all"
        rest = [chance.choice(NO_EVENTS) for _ in range(chance.randrange(2))]
        with self.assertRaises(Broken) as caught:
            bench.do_all(*events, *rest, **more)
        self.assertEqual(vars(caught.exception), {"done": len(events) - 1})
        cause = caught.exception.__cause__
        self.assertEqual((cause.__class__, cause.reason), (InvalidEvent, reason))
        self.assertIs(cause.event, events[-1])
        if more.get("keep"):
            notes.past = ahead.past
            return "kept"
        return "back"

    def look_ahead(self, bench, notes, chance):
        events, ahead, reason = self.events_ahead(notes, chance)
        if reason is None:
            self.same(ahead.now("stand"), bench.tried, *events)
            return
        self.assertIs(self.breaks(lambda: bench.tried(*events, None, LEAVE), events[-1], reason).event, events[-1])

    def a_trial(self, bench, notes, chance):
        past = list(notes.past)
        by_error = chance.random() < 0.4
        try:
            with bench.trial() as given:
                self.assertIs(given, bench)
                for _ in range(chance.randrange(8)):
                    self.one_call(bench, notes, chance)
                self.agrees(bench, notes)
                if by_error:
                    raise KeyError(1)
        except KeyError:
            self.assertTrue(by_error)
        # What was counted stays so.
        notes.past = past
        self.agrees(bench, notes)
        return "left by an error" if by_error else "trial"

    def test_verdicts(self):
        chance = random.Random(352)
        found = []
        for size in [SIZE, (("a",), 1, 0, False), (("a", "b"), 3, 1, True), (("a", "b", "c"), 2, 1, True)]:
            bench, notes = Bench(size, (), 4), benchwords.Notes(size, (), 4)
            for rule in [runwords.FULL, HASTY, runwords.FULL[1:], *[machinewords.a_rule(chance) for _ in range(4)]]:
                if bench.barred(("rule", rule)) is None:
                    bench.rule_now = rule
                    notes.add(("rule", rule))
                    notes.calls += 1
                found.append(notes.verdict())
                self.assertEqual(bench.verdict(), notes.verdict())
            self.agrees(bench, notes)
        self.assertEqual({*found}, {"hands", "loses", "good"})

    def test_a_run_as_a_bench(self):
        # Without rules and rooms among the events all is as of a run.
        for size, rule, rooms, run in runwords.some_runs(80, 353):
            bench = Bench(size, rule, rooms)
            self.assertEqual(bench.do_all(*run), len(run))
            self.assertEqual(bench.stand_now, stand_behind(size, rule, rooms, run))
            self.assertEqual(bench.results(), results_read(size, rule, rooms, run))
            self.assertEqual(tuple(bench.cells().values()), plain_cells(size, rule, rooms, run))
            self.assertEqual((list(bench.cells()), bench.moves_now), (list(size[0]), run))


class Reasons(BenchCase):
    def test_shape_comes_first(self):
        bench = Bench(SIZE, HASTY, 9)
        notes = benchwords.Notes(SIZE, HASTY, 9)
        for _ in range(2):
            for event in NO_EVENTS:
                self.assertEqual(bench.barred(event), "shape")
                self.assertEqual(bench.barred(event=event), "shape")
                error = self.breaks(lambda: bench.go(event), event, "shape")
                self.assertIs(error.event, event)
                self.assertIs(self.breaks(lambda: bench.go(event=event), event, "shape").event, event)
                notes.calls += 2
            for thing in BAD:
                error = self.breaks(lambda: bench.set_rule(thing), ("rule", thing), "shape")
                self.assertIs(error.event[1], thing)
                with self.assertRaises(InvalidEvent) as caught:
                    bench.rule_now = thing
                self.assertEqual((caught.exception.event[0], caught.exception.reason), ("rule", "shape"))
                self.assertIs(caught.exception.event[1], thing)
                notes.calls += 2
            self.agrees(bench, notes)
            # Once more with a bench that is full.
            for rule in [(), HASTY] * 20 * (len(notes.past) == 1):
                bench.set_rule(rule)
                notes.add(("rule", rule))
                notes.calls += 1
        self.assertEqual(len(bench), 40)

    def test_full_comes_before_what_cannot_be_done(self):
        bench = Bench(SIZE, (), 9)
        for k in range(38):
            self.assertEqual(bench.barred(ROOM), "rooms")
            bench.go(("rule", HASTY) if bench.rule_now == () else ("rule", ()))
        self.assertEqual([bench.barred(event) for event in (ROOM, ("rule", ()), LEAVE, GUESS, ("rule", HASTY))],
                         ["rooms", "same", "move", None, None])
        # Those before count: two more are possible.
        events = [GUESS, ("right", 0), LEAVE, GUESS]
        with self.assertRaises(Broken) as caught:
            bench.do_all(*events)
        self.assertEqual((caught.exception.done, caught.exception.__cause__.reason), (2, "full"))
        self.assertIs(caught.exception.__cause__.event, LEAVE)
        self.assertEqual(len(bench), 38)
        self.fails(*refused(LEAVE, "full"), bench.tried, *events)
        self.same(bench.stand_now[:3] + ((("guess", None),),), bench.tried, *events[:2])
        with self.assertRaises(Broken) as caught:
            bench.do_all(*events, keep=True)
        self.assertEqual((caught.exception.done, len(bench)), (2, 40))
        for event in (ROOM, ("rule", ()), ("rule", HASTY), LEAVE, GUESS, ("right", 3)):
            self.assertEqual(bench.barred(event), "full")
            self.fails(*refused(event, "full"), bench.go, event)
        self.assertEqual(bench.barred(("rooms",)), "shape")
        self.assertEqual(bench.undo(), ("right", 0))
        self.assertEqual(bench.barred(("right", 0)), None)
        self.assertEqual(len(bench), 39)

    def test_rooms(self):
        bench = Bench(SIZE, HASTY, 7)
        self.assertEqual((bench.add_room(), bench.go(ROOM), bench.barred(ROOM)), ((7,), (8,), "rooms"))
        self.fails(*refused(ROOM, "rooms"), bench.add_room)
        self.assertEqual((bench.rooms_now, bench.stand_now[1]), (9, (2, 3, 4, 5, 6, 7, 8)))
        self.assertEqual((bench.undo(), bench.rooms_now, 8 in bench), (ROOM, 8, False))
        # More of them from the beginning are somewhat beyond the limit.
        self.assertEqual(Bench(SIZE, HASTY, 10).barred(ROOM), "rooms")

    def test_rules(self):
        bench = Bench(SIZE, HASTY, 3)
        self.fails(*refused(("rule", HASTY), "same"), bench.set_rule, HASTY)
        self.fails(*refused(("rule", HASTY), "same"), bench.set_rule, rule=HASTY)
        self.assertEqual(bench.set_rule(()), ())
        self.assertEqual(bench.barred(("rule", ())), "same")
        self.assertEqual((bench.undo(), bench.rule_now), (("rule", ()), HASTY))


class Events(BenchCase):
    def test_rules_on_the_way(self):
        # A move is done by the rule as it is then, and what was done remains.
        bench = Bench(SIZE, (), 4)
        self.assertEqual(bench.go(TAKE), ())
        bench.rule_now = HASTY
        self.assertEqual((bench.stand_now[1], bench.given(0), bench.given(1)), ((3,), (), ()))
        self.assertEqual(bench.go(("take", ("make", "y", ()), 3)), (1,))
        self.assertEqual((bench.undo(), bench.rule_now), (("take", ("make", "y", ()), 3), HASTY))
        self.assertEqual((bench.undo(), bench.rule_now), (("rule", HASTY), ()))
        self.assertEqual(bench.go(("take", ("make", "y", ()), 3)), ())

    def test_a_room_more(self):
        bench = Bench((("a",), 2, 0, False), (("left", ()),), 1)
        self.assertEqual((bench.stand_now, bench.barred(("take", ("make", "a", ()), 1))), (((0,), (), (0,), ()), "move"))
        bench.add_room()
        self.assertEqual(bench.stand_now, ((0,), (1,), (0,), ()))
        bench.do_all(("take", ("make", "a", ("a",)), 1), ROOM, ("run", 0), ("take", ("make", "a", ("a",)), 2), ("run", 1))
        self.assertEqual((bench.go(LEAVE), bench.go(LEAVE), bench.go(ROOM)), ((0,), (1,), (3,)))
        self.assertEqual((bench.results(), bench.cells()), (((0, ("a",), ("a",)), (1, (0,), (0,))), {"a": 1}))
        self.assertEqual([bench.given(k) for k in range(len(bench))], [(1,), (), (2,), (), (), (), (0,), (1,), (3,)])

    def test_hands_are_numbered_among_all_events(self):
        bench = Bench(SIZE, (), 3)
        bench.do_all(ROOM, ("rule", HASTY), TAKE, ROOM, ("take", ("make", "y", ()), 0))
        self.assertEqual(bench.hands_now, (4,))
        bench.undo()
        self.assertEqual(bench.hands_now, ())
        # A name of another make leads there; its own one does not count.
        bench = Bench((("a", "b"), 1, 0, True), (("left", ()), ("made", ())), 3)
        bench.do_all(("take", ("make", "a", ()), 2), ("run", 0), LEAVE, ("take", ("make", "a", ()), 2))
        self.assertEqual(bench.hands_now, ())
        bench.undo()
        bench.go(("take", ("make", "b", ()), 2))
        self.assertEqual(bench.hands_now, (3,))

    def test_late_rooms_and_alarms(self):
        bench = Bench(SIZE, (("left", ()),), 4)
        bench.do_all(TAKE, ("take", ("make", "y", ()), 3), ("run", 1))
        self.assertEqual((bench.late_now, list(bench.alarms())), ((1,), []))
        bench.do_all(("run", 0), LEAVE)
        self.assertEqual((bench.late_now, bench.stand_now[1]), ((1,), (0,)))
        bench = Bench(SIZE, HASTY, 4)
        bench.do_all(TAKE, GUESS)
        self.assertEqual(list(bench.alarms()), [(0, ("reader",))])
        bench.do_all(("right", 1), ("run", 0), LEAVE, LEAVE, GUESS, ("enter", ("same", "x", "y")))
        self.assertEqual((list(bench.alarms()), bench.late_now), ([(2, ("picture",))], ()))

    def test_alarms_is_a_generator(self):
        bench = Bench(SIZE, HASTY, 3)
        bench.go(TAKE)
        alarms = bench.alarms()
        self.assertEqual(next(alarms), (0, ("reader",)))
        self.assertEqual(list(alarms), [])

    def test_what_it_returns_may_be_changed(self):
        bench = Bench(SIZE, HASTY, 3)
        bench.do_all(*FAST)
        before = repr(told(bench))
        bench.cells()["x"] = 9
        bench.table().append("")
        list(bench.alarms()).append(1)
        self.assertEqual(repr(told(bench)), before)

    def test_given(self):
        bench = Bench(SIZE, HASTY, 3)
        for thing in [*STRANGE, (), 0, "0", [0], *OBJECTS]:
            self.fails(*not_usable("k"), bench.given, thing)
        bench.do_all(ROOM, TAKE)
        self.assertEqual([bench.given(0), bench.given(k=1)], [(3,), (0,)])
        for thing in (2, -1, True, False, 10 ** 60 - 1, None):
            self.fails(*not_usable("k"), bench.given, thing)
            self.fails(*not_usable("k"), bench.given, k=thing)


class Operations(BenchCase):
    def test_counts(self):
        bench = Bench(SIZE, HASTY, 3)
        self.assertEqual(repr(bench.counts()), "(0, 0)")
        calls = [lambda: bench.go(TAKE), lambda: bench.go(None), bench.add_room, lambda: bench.set_rule(()),
                 lambda: bench.set_rule(()), lambda: bench.do_all(), lambda: bench.do_all(ROOM, ("run", 0), ("rule", HASTY)),
                 lambda: bench.do_all(LEAVE, None), lambda: bench.do_all(None, keep=True), bench.undo, bench.undo, bench.undo,
                 lambda: bench.do_all(ROOM, keep=1), lambda: setattr(bench, "rule_now", ()),
                 lambda: setattr(bench, "rule_now", None)]
        for k, call in enumerate(calls):
            try:
                call()
            except (InvalidEvent, Broken, NothingToUndo, not_usable("k")[0]):
                pass
            self.assertEqual(bench.counts(), (k + 1, k + 1))
        for call in (lambda: bench.tried(ROOM), lambda: bench.barred(ROOM), bench.log, bench.verdict, bench.table, bench.trial,
                     lambda: list(bench.alarms()), lambda: bench.given(0), bench.results, bench.cells, lambda: str(bench),
                     lambda: bench == bench, lambda: list(bench), lambda: told(bench)):
            call()
            self.assertEqual(bench.counts(), (len(calls), len(calls)))
        with bench.trial():
            bench.add_room()
            with bench.trial():
                bench.undo()
        self.assertEqual(bench.counts(), (len(calls) + 2, len(calls) + 2))
        bench += ROOM
        self.assertEqual(bench.counts(), (len(calls) + 3, len(calls) + 3))

    def test_do_all(self):
        bench = Bench(SIZE, HASTY, 3)
        self.same(0, bench.do_all)
        self.same(2, bench.do_all, ROOM, ("rule", ()), keep=True)
        before = told(bench)
        for keep in (False, True):
            with self.assertRaises(Broken) as caught:
                bench.do_all(GUESS, ROOM, LEAVE, None, keep=keep)
            self.assertEqual(repr(vars(caught.exception)), repr({"done": 2}))
            self.assertEqual(vars(caught.exception.__cause__), {"event": LEAVE, "reason": "move"})
            self.assertEqual(told(bench) == before, not keep)
        self.assertEqual(bench.log()[3:], (GUESS, ROOM))
        for keep in (0, 1, None, "", ()):
            self.fails(*not_usable("keep"), bench.do_all, keep=keep)

    def test_tried(self):
        bench = Bench(SIZE, HASTY, 3)
        bench.go(TAKE)
        before = told(bench)
        self.same(bench.stand_now, bench.tried)
        self.same(((2, 1), (0,), (0, 1), (("make", 2, (0,), 0, False), ("guess", (2, 1)))), bench.tried, GUESS)
        # By the rule that would be there then, with the rooms that would be there.
        self.same(((2, 3), (0, 1), (0, 1), (("make", 2, (0,), 0, False), ("make", 3, (), 1, False))), bench.tried, ROOM,
                  ("take", ("make", "y", ()), 3))
        self.same(((2, 3), (0,), (0, 1), (("make", 2, (0,), 0, False), ("make", 3, (), 1, False))), bench.tried, ROOM,
                  ("rule", ()), ("take", ("make", "y", ()), 3))
        self.fails(*refused(("rule", ()), "same"), bench.tried, ("rule", ()), ("rule", ()), None)
        self.fails(*refused(None, "shape"), bench.tried, ROOM, None, LEAVE)
        self.assertEqual(told(bench), before)

    def test_trials(self):
        bench = Bench(SIZE, HASTY, 3)
        bench.do_all(TAKE, ROOM)
        before = told(bench)
        with bench.trial() as given:
            self.assertIs(given, bench)
            bench.undo()
            bench.undo()
            bench.rule_now = ()
            bench += GUESS
            with bench.trial():
                bench.do_all(("right", 0), LEAVE, ROOM)
                self.assertEqual((len(bench), bench.rooms_now), (5, 4))
            self.assertEqual((bench.log()[1:], bench.rooms_now), ((("rule", ()), GUESS), 3))
        self.assertEqual(told(bench), before)
        for error in (InvalidEvent, ZeroDivisionError):
            with self.assertRaises(error):
                with bench.trial():
                    bench.undo()
                    bench.set_rule(())
                    bench.go(None) if error is InvalidEvent else 1 // 0
            self.assertEqual(told(bench), before)
        # Without the with statement nothing happens; it counts when this begins.
        trial = bench.trial()
        bench.undo()
        after = told(bench)
        for _ in range(2):
            with trial:
                bench.undo()
                with trial:
                    bench.add_room()
                self.assertEqual(len(bench), 0)
            self.assertEqual(told(bench), after)

    def test_undo(self):
        bench = Bench(SIZE, HASTY, 3)
        states = []
        events = [ROOM, TAKE, ("rule", ()), GUESS, ("run", 0), ("wrong", 1), LEAVE, ("rule", HASTY)]
        for event in events:
            states.append(told(bench))
            bench.go(event)
        while events:
            self.assertEqual(repr(bench.undo()), repr(events.pop()))
            self.assertEqual(repr(told(bench)), repr(states.pop()))
        self.fails(NothingToUndo, {"steps": 0}, bench.undo)

    def test_side_by_side(self):
        chance = random.Random(354)
        pairs = [(Bench(SIZE, HASTY, 3), benchwords.Notes(SIZE, HASTY, 3)) for _ in range(4)]
        for _ in range(150):
            bench, notes = chance.choice(pairs)
            event = an_event(notes, chance)
            notes.calls += 1
            if notes.reason(event) is None:
                notes.add(event)
                bench.go(event)
            else:
                self.fails(*refused(event, notes.reason(event)), bench.go, event)
        for bench, notes in pairs:
            self.agrees(bench, notes)
            for other, others in pairs:
                self.assertIs(bench == other, notes.log() == others.log())
        first, second = Bench(SIZE, HASTY, 3), Bench(SIZE, HASTY, 3)
        with first.trial():
            second.go(TAKE)
            first.add_room()
        self.assertEqual((len(first), len(second)), (0, 1))


class Signs(BenchCase):
    def test_names_and_rooms(self):
        bench = Bench(SIZE, HASTY, 3)
        bench.go(TAKE)
        self.assertEqual((bench["x"], bench["y"], list(bench), [*bench]), (2, 1, ["x", "y"], ["x", "y"]))
        for thing in [*STRANGE, (), "z", "xy", ("x",), ["x"], 0, 2, *OBJECTS]:
            self.fails(*not_usable("name"), lambda: bench[thing])
        self.assertEqual([thing in bench for thing in (0, 1, 2, 3)], [True, False, False, False])
        for thing in [*STRANGE, (), "0", (0,), [0], False, "x", HASTY, *OBJECTS]:
            self.assertIs(thing in bench, False)

    def test_equal(self):
        def made(*events, size=SIZE, rule=HASTY, rooms=3):
            bench = Bench(size, rule, rooms)
            bench.do_all(*events)
            return bench

        makers = [lambda: made(), lambda: made(rooms=4), lambda: made(ROOM), lambda: made(rule=()),
                  lambda: made(("rule", ()), ("rule", HASTY)), lambda: made(GUESS), lambda: made(GUESS, ("right", 0)),
                  lambda: made(GUESS, ("wrong", 0)), lambda: made(size=(("x", "y"), 2, 1, False)),
                  lambda: made(("rule", ())), lambda: made(GUESS, ROOM), lambda: made(ROOM, GUESS)]
        for k, first in enumerate(makers):
            for m, second in enumerate(makers):
                self.assertIs(first() == second(), k == m)
                self.assertIs(first() != second(), k != m)
        # How it came there makes no difference, nor what was counted.
        bench = made(ROOM, GUESS)
        bench.undo()
        bench.undo()
        self.assertIs(bench == made(), True)
        for thing in [*STRANGE, (), SIZE, bench.log(), str(bench), *OBJECTS[:3], House(SIZE, HASTY, 3)]:
            self.assertIs(bench == thing, False)
            self.assertIs(thing == bench, False)

    def test_lines(self):
        bench = Bench(SIZE, HASTY, 3)
        self.assertEqual(str(bench), "-")
        bench.do_all(TAKE, ROOM, ("rule", ()), ("rule", (("gone", ("name",)), ("left", ()))), ("run", 0))
        self.assertEqual(str(bench), "take make x of x in 2 / room / rule - / rule gone unless name; left / run 0")

    def test_what_is_told_cannot_be_assigned(self):
        bench = Bench(SIZE, HASTY, 3)
        for name in ("size_now", "rooms_now", "stand_now", "moves_now", "hands_now", "shows_now", "late_now"):
            with self.assertRaises(AttributeError):
                setattr(bench, name, 3)

    def test_wrong_arguments(self):
        for thing in STRANGE:
            self.fails(*not_usable("size"), Bench, thing, thing, thing)
            self.fails(*not_usable("size"), Bench, rooms=None, rule=None, size=thing)
        for thing in [*BAD, Rule(HASTY)]:
            self.fails(*not_usable("rule"), Bench, SIZE, thing, None)
            self.fails(*not_usable("rule"), Bench, rooms=1, rule=thing, size=SIZE)
        for thing in NO_ROOMS:
            self.fails(*not_usable("rooms"), Bench, SIZE, HASTY, thing)
            self.fails(*not_usable("rooms"), Bench, rooms=thing, rule=(), size=SIZE)


class Consequences(BenchCase):
    def test_nothing_shows_without_two_hands(self):
        # [67], whatever rules there were.
        chance = random.Random(355)
        shown = quiet = 0
        for _ in range(400):
            size = chance.choice(machinewords.SIZES)
            notes = benchwords.Notes(size, chance.choice([(), HASTY, machinewords.a_rule(chance)]), len(size[0]) + 1)
            bench = Bench(size, notes.now("rule"), len(size[0]) + 1)
            for _ in range(40):
                event = an_event(notes, chance)
                if notes.reason(event) is None:
                    notes.add(event)
                    bench.go(event)
            shown += bench.shows_now
            if bench.hands_now == ():
                quiet += 1
                self.assertIs(bench.shows_now, False)
        self.assertGreater(shown, 5)
        self.assertGreater(quiet, 100)

    def test_the_full_rule(self):
        # [67]
        chance = random.Random(356)
        for _ in range(60):
            size = chance.choice(machinewords.SIZES)
            notes = benchwords.Notes(size, runwords.FULL, len(size[0]))
            bench = Bench(size, runwords.FULL, len(size[0]))
            for _ in range(40):
                event = an_event(notes, chance)
                if notes.reason(event) is None and event[0] != "rule":
                    notes.add(event)
                    bench.go(event)
                self.assertEqual((bench.hands_now, bench.late_now, list(bench.alarms())), ((), (), []))

    def test_replayed(self):
        # [69]
        bench = Bench(SIZE, HASTY, 3)
        bench.do_all(ROOM, TAKE, ("rule", ()), GUESS)
        other = replayed(bench.log())
        self.assertIs(bench == other, True)
        self.assertEqual((told(bench), bench.counts(), other.counts()), (told(other), (1, 1), (0, 0)))


if __name__ == "__main__":
    unittest.main()
