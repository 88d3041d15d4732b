"""[32], [33]: two machines by different rules that are led through the same moves."""

import random
import unittest

from roomsback.errors import NothingToUndo, NotPossible
from roomsback.houses import House
from roomsback.machines import is_possible, possible_moves
from roomsback.ruleclasses import Rule
from roomsback.twinhouses import TwinHouse
from tests import machinewords, runwords
from tests.test_houses import Model, state
from tests.test_machines import HASTY, NO_ROOMS, SIZE, START, TAKE
from tests.test_rules import BAD, not_usable
from tests.test_runs import FAST
from tests.values import STRANGE, Case

BACK = ("take", ("make", "y", ()), 0)


def twin_state(twin):
    """All that is told of a twin house."""
    return (*state(twin), twin.other_now, twin.unlike_now)


class Twins:
    """Two models side by side."""

    def __init__(self, size, rule, rooms, other):
        self.first, self.second = Model(size, rule, rooms), Model(size, other, rooms)

    def possible(self):
        return [move for move in self.first.possible() if move in self.second.possible()]

    def go(self, move):
        self.second.go(move)
        return self.first.go(move)

    def state(self):
        free = set(self.first.stand()[1]) ^ set(self.second.stand()[1])
        told = self.first.state()
        return (*told[:-1], self.possible(), self.second.stand(), tuple(sorted(free)))


class TwinHouses(Case):
    def test_examples(self):
        twin = TwinHouse(SIZE, HASTY, 4, ())
        self.assertEqual([twin.go(TAKE), twin.unlike_now, list(twin.possible())[-1], twin == House(SIZE, HASTY, 4)],
                         [(0,), (0,), ("take", ("make", "y", ("x", "y")), 3), False])

    def test_derived_and_listed(self):
        self.assertTrue(issubclass(TwinHouse, House))
        for name in ("other_now", "unlike_now", "go", "undo", "tried", "trial"):
            self.assertIn(name, vars(TwinHouse))

    def test_led_along_drawn_ways(self):
        chance = random.Random(141)
        for _ in range(60):
            size = chance.choice(machinewords.SIZES)
            rooms = min(9, len(size[0]) + chance.randrange(4))
            rule, other = machinewords.a_rule(chance), chance.choice([(), HASTY, machinewords.a_rule(chance)])
            twins = Twins(size, rule, rooms, other)
            self.lead(TwinHouse(size, rule, rooms, other), twins, chance)

    def lead(self, twin, twins, chance):
        for _ in range(chance.randrange(40)):
            self.one_call(twin, twins, chance)
            self.assertEqual((twin.run_now, twin.stand_now, twin.other_now),
                             (twins.first.run(), twins.first.stand(), twins.second.stand()))
        self.assertEqual(repr(twin_state(twin)), repr(twins.state()))

    def one_call(self, twin, twins, chance):
        call = chance.choice(["go", "go", "go", "add", "undo", "rule", "bad", "tried", "trial"])
        ways = twins.possible()
        if call in ("go", "add") and ways:
            word = chance.choice(sorted({move[0] for move in ways}))
            move = chance.choice([move for move in ways if move[0] == word])
            if call == "add":
                twin += move
                twins.go(move)
            else:
                self.assertEqual(twin.go(move), twins.go(move))
        elif call == "undo" and len(twins.first.past) > 1:
            self.assertEqual(twin.undo(), twins.first.past.pop()[0])
            twins.second.past.pop()
        elif call == "undo":
            self.fails(NothingToUndo, {"steps": 0}, twin.undo)
        elif call == "rule":
            twins.first.rule = machinewords.a_rule(chance)
            twin.rule_now = twins.first.rule
        elif call == "bad":
            move = chance.choice([move for move in twins.first.ways if move not in ways])
            self.fails(NotPossible, {"at": -1}, twin.go, move)
        elif call == "tried":
            self.look_ahead(twin, twins, chance)
        elif call == "trial":
            past, others, rule = list(twins.first.past), list(twins.second.past), twins.first.rule
            with twin.trial() as given:
                self.assertIs(given, twin)
                for _ in range(chance.randrange(6)):
                    self.one_call(twin, twins, chance)
            twins.first.past, twins.second.past, twins.first.rule = past, others, rule

    def look_ahead(self, twin, twins, chance):
        moves = [chance.choice(twins.first.ways) for _ in range(chance.randrange(3))]
        if twins.possible():
            moves.insert(0, chance.choice(twins.possible()))
        first = runwords.walk(twins.first.size, twins.first.rule, twins.first.stand(), moves)
        second = runwords.walk(twins.first.size, twins.second.rule, twins.second.stand(), moves)
        done = min(len(first), len(second)) - 1
        if done == len(moves):
            self.same(first[-1], twin.tried, *moves)
        else:
            self.fails(NotPossible, {"at": done}, twin.tried, *moves)

    def test_possible_in_one_alone(self):
        for rule, other in ((HASTY, ()), ((), HASTY)):
            twin = TwinHouse(SIZE, rule, 4, other)
            self.assertEqual((twin.go(TAKE), twin.unlike_now), ((0,) if rule else (), (0,)))
            before = twin_state(twin)
            possible = [is_possible(SIZE, stand, BACK) for stand in (twin.stand_now, twin.other_now)]
            self.assertEqual(possible, [bool(rule), bool(other)])
            self.assertNotIn(BACK, list(twin.possible()))
            self.fails(NotPossible, {"at": -1}, twin.go, BACK)
            self.fails(NotPossible, {"at": 0}, twin.tried, BACK)
            self.fails(NotPossible, {"at": 1}, twin.tried, ("run", 0), BACK)
            with self.assertRaises(NotPossible):
                twin += BACK
            self.assertEqual(twin_state(twin), before)
            for stand in (twin.stand_now, twin.other_now):
                for move in twin.possible():
                    self.assertTrue(is_possible(SIZE, stand, move))
        # By each of both rules one of two moves is possible; the first that is not in both is told.
        twin = TwinHouse(SIZE, (("made", ()),), 3, HASTY)
        self.fails(NotPossible, {"at": 1}, twin.tried, TAKE, BACK, None)
        self.fails(NotPossible, {"at": 2}, twin.tried, TAKE, ("run", 0), ("take", ("make", "y", ()), 2))

    def test_equal_rules_are_never_unlike(self):
        # [33]
        for size, rule, rooms, run in runwords.some_runs(80, 142):
            twin = TwinHouse(size, rule, rooms, rule)
            house = House(size, rule, rooms)
            for move in run:
                self.assertEqual(twin.go(move), house.go(move))
                self.assertEqual((twin.unlike_now, twin.other_now), ((), house.stand_now))
            self.assertEqual(state(twin), state(house))

    def test_trials(self):
        twin = TwinHouse(SIZE, HASTY, 4, ())
        twin.go(TAKE)
        before = twin_state(twin)
        with self.assertRaises(ZeroDivisionError):
            with twin.trial() as given:
                self.assertIs(given, twin)
                twin.go(("run", 0))
                twin.rule_now = ()
                with twin.trial():
                    twin.undo()
                    twin.undo()
                    self.assertEqual((twin.other_now, len(twin)), (((0, 1), (2, 3), (0, 1), ()), 0))
                self.assertEqual((len(twin), twin.other_now[2]), (2, (0, 1, 2)))
                raise ZeroDivisionError
        self.assertEqual(twin_state(twin), before)
        trial = twin.trial()
        with trial:
            twin.go(("run", 0))
            with trial:
                twin.undo()
                twin.undo()
            self.assertEqual((len(twin), twin.other_now[2]), (2, (0, 1, 2)))
        self.assertEqual(twin_state(twin), before)

    def test_equal_to_houses(self):
        # The second machine is not asked.
        twin, other, house = TwinHouse(SIZE, HASTY, 3, ()), TwinHouse(SIZE, HASTY, 3, HASTY), House(SIZE, HASTY, 3)
        for move in (TAKE, ("run", 0)):
            self.assertEqual([twin == house, house == twin, twin == other, other == twin], [True] * 4)
            house.go(move)
            self.assertEqual([twin == house, house == twin, twin != house], [False, False, True])
            twin.go(move)
            other.go(move)
        self.assertEqual([twin == house, twin == other, twin.other_now == other.other_now], [True, True, False])
        for thing in (*STRANGE, (), Rule(HASTY)):
            self.assertIs(twin == thing, False)

    def test_what_a_house_tells(self):
        twin = TwinHouse(SIZE, HASTY, 3, HASTY)
        for move in FAST:
            twin += move
        self.assertEqual((twin.shows_now, twin["x"], 0 in twin, True in twin, len(twin)), (True, 2, False, False, 5))
        self.assertEqual(twin.rule_now, HASTY)
        with self.assertRaises(TypeError):
            list(twin)
        self.fails(*not_usable("name"), lambda: twin["z"])
        for name in ("other_now", "unlike_now", "stand_now"):
            with self.assertRaises(AttributeError):
                setattr(twin, name, ())

    def test_wrong_arguments(self):
        for thing in STRANGE:
            self.fails(*not_usable("size"), TwinHouse, thing, thing, thing, thing)
            self.fails(*not_usable("size"), TwinHouse, other=None, rooms=None, rule=None, size=thing)
        for thing in BAD:
            self.fails(*not_usable("rule"), TwinHouse, SIZE, thing, None, None)
            self.fails(*not_usable("other"), TwinHouse, SIZE, HASTY, 3, thing)
            self.fails(*not_usable("other"), TwinHouse, other=thing, rooms=3, rule=HASTY, size=SIZE)
        for thing in NO_ROOMS:
            self.fails(*not_usable("rooms"), TwinHouse, SIZE, HASTY, thing, None)
        twin = TwinHouse(other=HASTY, rooms=3, rule=HASTY, size=SIZE)
        self.assertEqual((twin.stand_now, twin.other_now), (START, START))
        ways = twin.possible()
        self.assertEqual([next(ways), *ways], list(possible_moves(SIZE, START)))


if __name__ == "__main__":
    unittest.main()
