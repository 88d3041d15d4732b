"""[58], (G5) of [10]: how many rooms are needed, and runs along which rooms are lost."""

import random
import unittest

from roomsback.counts import losing_run, rooms_needed
from roomsback.keeping import loses_none
from roomsback.runs import lets_run
from roomsback.rulechanges import full_rule
from tests import latewords, machinewords, runwords, viewwords
from tests.test_keeping import good_rules
from tests.test_likeness import LEFT, ONE
from tests.test_losing import SIZES, losing_rules
from tests.test_machines import HASTY, SIZE
from tests.test_rules import BAD, not_usable
from tests.values import STRANGE, Case

MADE = (("made", ()),)


def all_can_enter(size, rooms, stand):
    """Whether each make can enter, by some room."""
    makes = [step for step in machinewords.steps(size) if step[0] == "make"]
    return all(any(machinewords.possible(size, stand, ("take", step, room)) for room in range(rooms)) for step in makes)


def leads_to_entering(size, rule, rooms, stand):
    """(G5): whether moves by which no step enters lead to a stand in which each make can enter."""
    found, todo = {stand}, [stand]
    while todo:
        stand = todo.pop()
        if all_can_enter(size, rooms, stand):
            return True
        for move in machinewords.moves(size, rooms):
            if move[0] not in ("take", "enter") and machinewords.possible(size, stand, move):
                after = machinewords.behind(size, rule, stand, move)
                if after not in found:
                    found.add(after)
                    todo.append(after)
    return False


def take_in_hands(size, stand, move):
    """[63]: whether a possible move is a take in two hands."""
    if move[0] != "take":
        return False
    names = [name for name, lead in zip(size[0], stand[0]) if lead == move[2]]
    return bool({*machinewords.needs(size, stand, move[2])} - {"name"}) or names not in ([], [move[1][1]])


class Counts(Case):
    def test_examples(self):
        self.same(2, rooms_needed, ONE, LEFT)
        self.same(None, rooms_needed, ONE, ())
        self.same(None, losing_run, ONE, LEFT, 2)

    def test_rooms_needed(self):
        chance = random.Random(341)
        told = []
        for size in SIZES:
            for rule in [(), full_rule(), *good_rules(chance)]:
                expected = len(size[0]) + 1 if latewords.judged(size, rule) == "good" else None
                told.append(expected)
                self.same(expected, rooms_needed, size, rule)
                self.same(expected, rooms_needed, rule=rule, size=size)
        self.assertGreater(told.count(None), 30)
        self.assertGreater(len(told) - told.count(None), 30)

    def test_one_room_more_than_names_is_enough(self):
        # (G5), one way: from each stand of a drawn run.
        chance = random.Random(342)
        tried = 0
        for size in viewwords.SMALL:
            for rule in good_rules(chance):
                rooms = rooms_needed(size, rule)
                if rooms is None:
                    continue
                for _ in range(3):
                    run = runwords.a_run(size, rule, rooms, 20, chance)
                    for stand in runwords.walk(size, rule, runwords.first(size, rooms), run):
                        tried += 1
                        self.assertTrue(leads_to_entering(size, rule, rooms, stand))
        self.assertGreater(tried, 500)

    def test_as_many_rooms_as_names_are_not(self):
        # (G5), the other way; and what a rule that is not good does.
        chance = random.Random(343)
        for size in viewwords.SMALL:
            for rule in good_rules(chance):
                many = len(size[0])
                self.assertFalse(leads_to_entering(size, rule, many, runwords.first(size, many)))
        self.assertFalse(leads_to_entering(ONE, (), 2, ((1,), (), (0, 1), ())))
        self.assertTrue(leads_to_entering(ONE, LEFT, 2, ((1,), (), (0, 1), (("make", 1, (), 0, True),))))


class LosingRuns(Case):
    def gone_through(self, size, rule, times):
        """Go through a losing run move by move; return how many rooms are lost behind it, None if there is none."""
        pair = losing_run(size, rule, times)
        if pair is None:
            return None
        rooms, run = pair
        self.assertEqual((pair.__class__, run.__class__), (tuple, tuple))
        self.same(len(run), lets_run, size, rule, rooms, run)
        stand = runwords.first(size, rooms)
        for move in run:
            self.assertTrue(machinewords.possible(size, stand, move))
            self.assertFalse(take_in_hands(size, stand, move))
            stand = machinewords.behind(size, rule, stand, move)
        leads, free, _, flight = stand
        self.assertEqual(flight, ())
        lost = [room for room in range(rooms) if room not in free and room not in leads]
        self.assertGreaterEqual(len(lost), times)
        return len(lost)

    def test_each_number_of_times(self):
        chance = random.Random(344)
        none = some = 0
        for size in SIZES:
            for rule in [(), *losing_rules(10, chance), *good_rules(chance)]:
                if viewwords.judge(size, rule)[1] is not None:
                    self.fails(*not_usable("rule"), losing_run, size, rule, 1)
                    self.fails(*not_usable("rule"), losing_run, times=None, rule=rule, size=size)
                    continue
                most = 1 if len(size[0]) == size[1] == 1 else 3
                loses = latewords.losing(size, rule) is not None
                for times in range(most + 1):
                    if not loses:
                        none += 1
                        self.same(None, losing_run, size, rule, times)
                    else:
                        some += 1
                        self.assertIsNotNone(self.gone_through(size, rule, times))
        self.assertGreater(none, 60)
        self.assertGreater(some, 120)

    def test_wide_sizes(self):
        chance = random.Random(345)
        for size in [(("a", "b"), 3, 2, True), (("a", "b", "c"), 2, 2, True)]:
            for rule in [(), *losing_rules(15, chance)]:
                if viewwords.judge(size, rule)[1] is None and not loses_none(size, rule):
                    self.gone_through(size, rule, 3)

    def test_from_a_room_without_a_name(self):
        # The room that is lost may be one that was free at first, or one of a name.
        rule = (("left", machinewords.NEEDS),)
        for size in [(("a",), 2, 1, False), (("a", "b"), 2, 1, True)]:
            self.assertFalse(loses_none(size, rule))
            for times in range(4):
                self.gone_through(size, rule, times)
        # With one name and one place a room is never held again once it was made.
        self.assertEqual(self.gone_through(ONE, MADE, 1), 1)
        self.assertEqual(self.gone_through(ONE, (), 1), 1)

    def test_somewhat_beyond_the_limit(self):
        for times in (2, 3, 5):
            losing_run(ONE, MADE, times)
            self.gone_through(ONE, (), times)
        self.gone_through(SIZE, (), 7)

    def test_by_name(self):
        self.assertEqual(losing_run(times=1, rule=(), size=ONE), losing_run(ONE, (), 1))

    def test_wrong_arguments(self):
        for thing in STRANGE:
            self.fails(*not_usable("size"), rooms_needed, thing, thing)
            self.fails(*not_usable("size"), rooms_needed, rule=None, size=thing)
            self.fails(*not_usable("size"), losing_run, thing, thing, thing)
            self.fails(*not_usable("size"), losing_run, times=None, rule=None, size=thing)
        for thing in [*BAD, HASTY]:
            self.fails(*not_usable("rule"), losing_run, SIZE, thing, thing)
            self.fails(*not_usable("rule"), losing_run, times=None, rule=thing, size=SIZE)
        for thing in BAD:
            self.fails(*not_usable("rule"), rooms_needed, SIZE, thing)
            self.fails(*not_usable("rule"), rooms_needed, rule=thing, size=SIZE)
        for thing in [*[thing for thing in STRANGE if thing != 10 ** 60 - 1], (), "1", (1,)]:
            # Also if the rule loses nothing.
            self.fails(*not_usable("times"), losing_run, SIZE, (), thing)
            self.fails(*not_usable("times"), losing_run, times=thing, rule=full_rule(), size=SIZE)


if __name__ == "__main__":
    unittest.main()
