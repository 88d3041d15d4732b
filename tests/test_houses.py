"""[31], [33]: machines that are led."""

import random
import unittest

from roomsback.errors import NothingToUndo, NotPossible
from roomsback.houses import House
from roomsback.machines import possible_moves
from roomsback.movetexts import run_text
from roomsback.results import does_show
from roomsback.ruleclasses import Rule
from roomsback.runs import stand_behind
from tests import machinewords, runwords
from tests.test_machines import HASTY, NO_ROOMS, SIZE, START, TAKE
from tests.test_rules import BAD, not_usable
from tests.test_runs import FAST
from tests.values import STRANGE, Case

NONE_POSSIBLE = [*STRANGE, (), ("leave",), ("run", 0), ("right", 0), ("take", TAKE[1], 1), ("take", TAKE[1], True),
                 list(TAKE), ("take", ("make", "z", ()), 2), ("enter", TAKE[1]), ("rule", ()), ("room",)]
LISTED = """size_now rooms_now stand_now run_now shows_now rule_now go __iadd__ undo tried possible trial __iter__
    __getitem__ __contains__ __len__ __eq__ __str__""".split()


def state(house):
    """All that is told of a house."""
    return (house.size_now, house.rooms_now, house.rule_now, house.stand_now, house.run_now, house.shows_now,
            len(house), str(house), [house[name] for name in house.size_now[0]], list(house.possible()))


class Model:
    """A house as the document has it, by the machine of the tests: its moves with the stands behind them."""

    def __init__(self, size, rule, rooms):
        self.size, self.rule, self.rooms = size, rule, rooms
        self.past = [(None, runwords.first(size, rooms))]
        self.ways = machinewords.moves(size, rooms)

    def stand(self):
        return self.past[-1][1]

    def run(self):
        return tuple(move for move, _ in self.past[1:])

    def possible(self):
        return [move for move in self.ways if machinewords.possible(self.size, self.stand(), move)]

    def go(self, move):
        self.past.append((move, machinewords.behind(self.size, self.rule, self.stand(), move)))
        return tuple(sorted(set(self.past[-1][1][1]) - set(self.past[-2][1][1])))

    def state(self):
        run = self.run()
        return (self.size, self.rooms, self.rule, self.stand(), run, runwords.Reckoned(self.size, run).shows(),
                len(run), run_text(run), list(self.stand()[0]), self.possible())


class Houses(Case):
    def test_examples(self):
        house = House(SIZE, HASTY, 3)
        self.assertEqual([house.go(TAKE), house["x"], 0 in house, house.undo(), len(house), house.stand_now == START],
                         [(0,), 2, True, ("take", ("make", "x", ("x",)), 2), 0, True])

    def test_listed_in_the_class_itself(self):
        for name in LISTED:
            self.assertIn(name, vars(House))

    def test_at_first(self):
        house = House(rooms=3, rule=HASTY, size=SIZE)
        self.assertEqual(state(house), (SIZE, 3, HASTY, START, (), False, 0, "", [0, 1], list(possible_moves(SIZE, START))))

    def test_led_along_drawn_ways(self):
        chance = random.Random(131)
        for _ in range(60):
            size = chance.choice(machinewords.SIZES)
            rooms = min(9, len(size[0]) + chance.randrange(4))
            rule = chance.choice([(), HASTY, machinewords.a_rule(chance)])
            self.lead(House(size, rule, rooms), Model(size, rule, rooms), chance)

    def lead(self, house, model, chance):
        for _ in range(chance.randrange(40)):
            self.one_call(house, model, chance)
            self.assertEqual((house.run_now, house.stand_now), (model.run(), model.stand()))
        self.assertEqual(repr(state(house)), repr(model.state()))

    def one_call(self, house, model, chance):
        call = chance.choice(["go", "go", "go", "go", "add", "undo", "rule", "bad", "tried", "trial"])
        move = runwords.a_move(model.size, model.stand(), model.ways, chance)
        if call == "go" and move is not None:
            self.assertEqual(house.go(move), model.go(move))
        elif call == "add" and move is not None:
            same = house
            house += move
            model.go(move)
            self.assertIs(house, same)
        elif call == "undo" and len(model.past) > 1:
            self.assertEqual(house.undo(), model.past.pop()[0])
        elif call == "undo":
            self.fails(NothingToUndo, {"steps": 0}, house.undo)
        elif call == "rule":
            model.rule = machinewords.a_rule(chance)
            house.rule_now = model.rule
        elif call == "bad":
            move = chance.choice(model.ways + NONE_POSSIBLE)
            if move not in model.possible():
                self.fails(NotPossible, {"at": -1}, house.go, move)
        elif call == "tried":
            self.look_ahead(house, model, chance)
        elif call == "trial":
            past, rule = list(model.past), model.rule
            with house.trial() as given:
                self.assertIs(given, house)
                for _ in range(chance.randrange(6)):
                    self.one_call(house, model, chance)
                self.assertEqual(house.run_now, model.run())
            model.past, model.rule = past, rule
        else:
            self.assertEqual(list(house.possible()), model.possible())

    def look_ahead(self, house, model, chance):
        moves = []
        stand = model.stand()
        for _ in range(chance.randrange(5)):
            move = runwords.a_move(model.size, stand, model.ways, chance)
            if move is not None:
                moves.append(move)
                stand = machinewords.behind(model.size, model.rule, stand, move)
        self.same(stand, house.tried, *moves)
        bad = chance.choice(model.ways + NONE_POSSIBLE)
        if not (bad in model.ways and machinewords.possible(model.size, stand, bad)):
            self.fails(NotPossible, {"at": len(moves)}, house.tried, *moves, bad, ("leave",), None)

    def test_led_through_runs(self):
        # [33]
        for size, rule, rooms, run in runwords.some_runs(150, 132):
            house = House(size, rule, rooms)
            for move in run:
                ahead = house.stand_now[1]
                given = house.go(move)
                self.assertEqual(given, tuple(room for room in house.stand_now[1] if room not in ahead))
            self.assertEqual(house.stand_now, stand_behind(size, rule, rooms, run))
            self.assertEqual(house.stand_now, House(size, rule, rooms).tried(*run))
            self.assertIs(house.shows_now, does_show(size, rule, rooms, run))
            self.assertEqual((house.run_now, str(house)), (run, run_text(run)))

    def test_shows_and_taking_back(self):
        house = House(SIZE, HASTY, 3)
        for move in FAST:
            self.assertIs(house.shows_now, False)
            house.go(move)
        self.assertIs(house.shows_now, True)
        house.undo()
        self.assertIs(house.shows_now, False)
        # Led on by another way.
        self.assertEqual([house.undo() for _ in range(3)], [FAST[3], FAST[2], FAST[1]])
        for move in (("run", 0), ("enter", ("guess",)), ("leave",), ("right", 0), ("leave",)):
            house.go(move)
        self.assertEqual((house.shows_now, house.stand_now), (False, ((2, 1), (0,), (0, 1, 2), ())))

    def test_rules_assigned_on_the_way(self):
        house = House(SIZE, (), 4)
        self.assertEqual(house.go(TAKE), ())
        house.rule_now = HASTY
        self.assertEqual((house.rule_now, house.stand_now[1]), (HASTY, (3,)))
        self.assertEqual(house.go(("take", ("make", "y", ()), 3)), (1,))
        self.assertEqual(house.undo(), ("take", ("make", "y", ()), 3))
        self.assertEqual((house.rule_now, house.stand_now[1]), (HASTY, (3,)))
        for thing in BAD:
            with self.assertRaises(Exception) as caught:
                house.rule_now = thing
            self.assertEqual((caught.exception.__class__, vars(caught.exception)), not_usable("rule"))
            self.assertEqual((house.rule_now, len(house)), (HASTY, 1))
        # What was done remains, though by this rule it could not be done.
        house = House(SIZE, HASTY, 3)
        for move in FAST[:2]:
            house.go(move)
        house.rule_now = ()
        self.assertEqual((house.run_now, house.stand_now), (FAST[:2], stand_behind(SIZE, HASTY, 3, FAST[:2])))
        self.fails(*not_usable("run"), stand_behind, SIZE, (), 3, house.run_now)

    def test_trials(self):
        house = House(SIZE, HASTY, 3)
        house.go(TAKE)
        before = state(house)
        with house.trial() as given:
            self.assertIs(given, house)
            house.undo()
            house.rule_now = ()
            house.go(("enter", ("guess",)))
            with house.trial():
                house.go(("right", 0))
                house.go(("leave",))
                self.assertEqual(len(house), 3)
            self.assertEqual((house.run_now, house.rule_now), ((("enter", ("guess",)),), ()))
        self.assertEqual(state(house), before)
        with self.assertRaises(ZeroDivisionError):
            with house.trial():
                house.undo()
                house.rule_now = ()
                house.go(1 // 0)
        self.assertEqual(state(house), before)
        with self.assertRaises(NotPossible):
            with house.trial():
                house.go(("enter", ("guess",)))
                house.go(("leave",))
        self.assertEqual(state(house), before)
        # Without the with statement nothing happens; it counts when this begins.
        trial = house.trial()
        house.undo()
        after = state(house)
        for _ in range(2):
            with trial:
                house.go(("enter", ("guess",)))
                with trial:
                    house.go(("right", 0))
                self.assertEqual(house.run_now, (("enter", ("guess",)),))
            self.assertEqual(state(house), after)

    def test_side_by_side(self):
        first, second = House(SIZE, HASTY, 3), House(SIZE, HASTY, 3)
        self.assertIs(first == second, True)
        first += TAKE
        self.assertEqual((len(first), len(second), first == second, first != second), (1, 0, False, True))
        with first.trial():
            second += TAKE
            first.undo()
            second.rule_now = ()
        self.assertEqual((first.run_now, second.run_now, second.rule_now), ((TAKE,), (TAKE,), ()))

    def test_equal(self):
        houses = [House(SIZE, HASTY, 3), House(SIZE, HASTY, 4), House(SIZE, (), 3), House((("x", "y"), 2, 1, False), HASTY, 3),
                  House((("x", "y"), 3, 1, True), HASTY, 3)]
        for k, first in enumerate(houses):
            for m, second in enumerate(houses):
                self.assertIs(first == second, k == m)
            for thing in [*STRANGE, (), SIZE, Rule(HASTY), state(first), str(first), len(first)]:
                self.assertIs(first == thing, False)
                self.assertIs(thing == first, False)
        # The same moves, but another stand, for the rule was another one then.
        first, second = House(SIZE, HASTY, 3), House(SIZE, (), 3)
        first.go(TAKE)
        second.go(TAKE)
        second.rule_now = HASTY
        self.assertIs(first == second, False)
        second.undo()
        second.go(TAKE)
        self.assertIs(first == second, True)
        # The same stand, but other moves.
        first, second = House(SIZE, (), 3), House(SIZE, (), 3)
        for move in (("enter", ("guess",)), ("right", 0), ("leave",)):
            first.go(move)
        self.assertEqual(first.stand_now, second.stand_now)
        self.assertIs(first == second, False)

    def test_names_and_rooms(self):
        house = House(SIZE, HASTY, 3)
        house.go(TAKE)
        self.assertEqual((house["x"], house["y"]), (2, 1))
        for thing in [*STRANGE, (), "z", "xy", ("x",), ["x"], 0, 2]:
            self.fails(*not_usable("name"), lambda: house[thing])
        self.assertEqual([thing in house for thing in (0, 1, 2, 3)], [True, False, False, False])
        for thing in [*STRANGE, (), "0", (0,), [0], False, "x", HASTY]:
            self.assertIs(thing in house, False)
        # False is no room, though Python takes it for 0.
        self.assertIs(0 in house, True)

    def test_not_iterated_over(self):
        house = House(SIZE, HASTY, 3)
        for call in (iter, list, tuple, sorted, lambda some: [room for room in some]):
            with self.assertRaises(TypeError):
                call(house)

    def test_possible_is_a_generator(self):
        house = House(SIZE, HASTY, 3)
        ways = house.possible()
        self.assertEqual(next(ways), next(possible_moves(SIZE, START)))
        self.assertEqual(len(list(ways)), 10)

    def test_what_is_told_cannot_be_assigned(self):
        house = House(SIZE, HASTY, 3)
        for name in ("size_now", "rooms_now", "stand_now", "run_now", "shows_now"):
            with self.assertRaises(AttributeError):
                setattr(house, name, 3)

    def test_refused_calls_change_nothing(self):
        house = House(SIZE, HASTY, 3)
        house.go(TAKE)
        before = state(house)
        for thing in [*STRANGE, (), ("leave",), ("right", 0), ("run", False), TAKE, list(TAKE), ("room",)]:
            self.fails(NotPossible, {"at": -1}, house.go, thing)
            self.fails(NotPossible, {"at": -1}, house.go, move=thing)
            with self.assertRaises(NotPossible) as caught:
                house += thing
            self.assertEqual(vars(caught.exception), {"at": -1})
            self.fails(NotPossible, {"at": 0}, house.tried, thing)
            self.fails(NotPossible, {"at": 1}, house.tried, ("run", 0), thing if thing != ("leave",) else None, None)
            self.assertEqual(state(house), before)
        self.same(house.stand_now, house.tried)

    def test_wrong_arguments(self):
        for thing in STRANGE:
            self.fails(*not_usable("size"), House, thing, thing, thing)
            self.fails(*not_usable("size"), House, rooms=None, rule=None, size=thing)
        for thing in BAD:
            self.fails(*not_usable("rule"), House, SIZE, thing, None)
            self.fails(*not_usable("rule"), House, rooms=1, rule=thing, size=SIZE)
        self.fails(*not_usable("rule"), House, SIZE, Rule(HASTY), 3)
        for thing in NO_ROOMS:
            self.fails(*not_usable("rooms"), House, SIZE, HASTY, thing)


if __name__ == "__main__":
    unittest.main()
