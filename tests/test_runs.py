"""[6], [11], [25], [26], [27]: runs, the stands along them, and draining them."""

import random
import unittest

from roomsback.errors import InvalidPaper
from roomsback.runs import drained, lets_run, stand_behind, stands_along, steps_in
from tests import machinewords, runwords
from tests.test_machines import HASTY, NO_ROOMS, SIZE, START, TAKE
from tests.test_movereadings import moves_of
from tests.test_rules import BAD, not_usable
from tests.values import STRANGE, Case

FAST = (TAKE, ("take", ("make", "y", ()), 0), ("run", 1), ("run", 0), ("leave",))
NO_RUNS = [*[thing for thing in STRANGE if thing != ()], list(FAST), FAST[1:], (*FAST, ("leave",), ("leave",)), (None,),
           (list(TAKE),), (("run", True),), ("leave",), (("leave",),), (TAKE, TAKE)]


def paper(word, at):
    return InvalidPaper, {"word": word, "at": at}


class Runs(Case):
    def test_examples(self):
        self.same(5, lets_run, SIZE, HASTY, 3, FAST)
        self.same((("make", "x", ("x",)), ("make", "y", ())), steps_in, FAST)
        self.assertEqual(drained(SIZE, HASTY, 3, FAST)[5:], (("leave",),))
        self.fails(*paper("move", 1), lets_run, SIZE, (), 3, FAST)

    def test_drawn_runs(self):
        for size, rule, rooms, run in runwords.some_runs(250, 101):
            stands = runwords.walk(size, rule, runwords.first(size, rooms), run)
            self.same(len(run), lets_run, size, rule, rooms, run)
            self.same(len(run), lets_run, thing=run, rooms=rooms, rule=rule, size=size)
            self.same(stands[-1], stand_behind, size, rule, rooms, run)
            self.same(stands[-1], stand_behind, run=run, rooms=rooms, rule=rule, size=size)
            self.assertEqual(list(stands_along(size, rule, rooms, run)), stands)
            for k in range(0, len(run), 7):
                self.same(stands[k], stand_behind, size, rule, rooms, run[:k])

    def test_changed_runs(self):
        chance = random.Random(102)
        refused = 0
        for size, rule, rooms, run in runwords.some_runs(600, 103):
            thing = runwords.changed(size, rooms, run, chance)
            # By another rule, or with fewer rooms, the same moves may break off.
            rule = chance.choice([rule, rule, (), machinewords.a_rule(chance)])
            rooms = max(len(size[0]), rooms - chance.randrange(2))
            stands = runwords.walk(size, rule, runwords.first(size, rooms), thing)
            if len(stands) == len(thing) + 1:
                self.same(len(thing), lets_run, size, rule, rooms, thing)
                self.same(stands[-1], stand_behind, size, rule, rooms, thing)
                continue
            refused += 1
            self.fails(*paper("move", len(stands) - 1), lets_run, size, rule, rooms, thing)
            self.fails(*not_usable("run"), stand_behind, size, rule, rooms, thing)
            self.fails(*not_usable("run"), next, stands_along(size, rule, rooms, thing))
            self.fails(*not_usable("run"), drained, size, rule, rooms, thing)
        self.assertGreater(refused, 200)

    def test_any_value_as_a_move(self):
        for thing in [*STRANGE, (), ("leave", 0), ("run", True), ("run", "0"), list(FAST[2]), "leave"]:
            self.fails(*paper("move", 2), lets_run, SIZE, HASTY, 3, (*FAST[:2], thing, *FAST[2:]))
            self.fails(*not_usable("run"), stand_behind, SIZE, HASTY, 3, (*FAST, thing))
        # True is no place, though Python takes it for 1.
        self.fails(*paper("move", 2), lets_run, SIZE, HASTY, 3, (*FAST[:2], ("run", True)))
        self.fails(*paper("move", 3), lets_run, SIZE, HASTY, 3, (*FAST[:3], ("run", False)))

    def test_shape(self):
        for thing in [*STRANGE, list(FAST), "leave"]:
            if not isinstance(thing, tuple):
                self.fails(*paper("shape", -1), lets_run, SIZE, HASTY, 3, thing)
        self.same(0, lets_run, SIZE, HASTY, 3, ())
        self.same(START, stand_behind, SIZE, HASTY, 3, ())
        self.assertEqual(list(stands_along(SIZE, HASTY, 3, ())), [START])

    def test_more_rooms_bar_nothing(self):
        # [27]: a run is one with more rooms, too; by the rule () there are no more takes than rooms beside names.
        for size, rule, rooms, run in runwords.some_runs(120, 104):
            for more in (1, 3):
                self.same(len(run), lets_run, size, rule, rooms + more, run)
            if rule == ():
                takes = len([move for move in run if move[0] == "take"])
                self.assertLessEqual(takes, rooms - len(size[0]))

    def test_wrong_arguments(self):
        calls = [lets_run, stand_behind, drained, lambda *args, **more: next(stands_along(*args, **more))]
        for call in calls:
            last = "thing" if call == lets_run else "run"
            for thing in STRANGE:
                self.fails(*not_usable("size"), call, thing, thing, thing, None)
                self.fails(*not_usable("size"), call, **{last: None}, rooms=None, rule=None, size=thing)
            for thing in BAD:
                self.fails(*not_usable("rule"), call, SIZE, thing, None, None)
            for thing in NO_ROOMS:
                self.fails(*not_usable("rooms"), call, SIZE, HASTY, thing, None)
                self.fails(*not_usable("rooms"), call, **{last: None}, rooms=thing, rule=HASTY, size=SIZE)
            if call != lets_run:
                for thing in NO_RUNS:
                    self.fails(*not_usable("run"), call, SIZE, HASTY, 3, thing)
                    self.fails(*not_usable("run"), call, run=thing, rooms=3, rule=HASTY, size=SIZE)

    def test_errors_come_with_the_first_stand(self):
        along = stands_along(None, None, None, None)
        self.fails(*not_usable("size"), next, along)
        along = stands_along(SIZE, HASTY, 3, FAST)
        self.assertEqual(next(along), START)
        self.assertEqual(len(list(along)), 5)


class Steps(Case):
    def test_drawn_runs(self):
        for _, _, _, run in runwords.some_runs(120, 105):
            steps = tuple(move[1] for move in run if len(move) > 1 and isinstance(move[1], tuple))
            self.same(steps, steps_in, run)
            self.same(steps, steps_in, run=run)

    def test_moves_by_form(self):
        # No size has to have them all, and none of them need be possible.
        moves = (*moves_of((("a", "b"), 1, 1, True), (7,)), *moves_of((("of", "x"), 1, 0, False), (10 ** 60 - 1,)))
        steps = [*machinewords.steps((("a", "b"), 1, 1, True)), *machinewords.steps((("of", "x"), 1, 0, False))]
        found = steps_in(moves)
        self.assertEqual(sorted(map(repr, found)), sorted(map(repr, steps)))
        self.same((), steps_in, ())
        self.same((("guess",), ("guess",)), steps_in, (("enter", ("guess",)), ("leave",), ("enter", ("guess",))))

    def test_wrong_arguments(self):
        near = [("take", ("same", "a", "b"), 0), ("take", ("guess",), 0), ("enter", ("make", "a", ())), ("enter",),
                ("take", ("make", "a", ()), True), ("take", ("make", "a", ())), ("run",), ("run", -1), ("leave", 0),
                ("take", ("make", "a", ("b", "a")), 0), ("enter", ("same", "a", "a")), ["leave"], ("left",)]
        for thing in [*STRANGE, *near]:
            if thing != ():
                self.fails(*not_usable("run"), steps_in, thing)
            self.fails(*not_usable("run"), steps_in, (*FAST, thing))
            self.fails(*not_usable("run"), steps_in, run=[thing])
        self.fails(*not_usable("run"), steps_in, list(FAST))


class Draining(Case):
    def drain(self, size, rule, stand):
        """[26], with the machine of the tests: the moves, None if they break off."""
        moves = []
        while stand[3]:
            ways = [(word, k) for word in ("run", "right") for k in range(len(stand[3]))] + [("leave",)]
            ways = [move for move in ways if machinewords.possible(size, stand, move)]
            if not ways:
                return None
            moves.append(ways[0])
            stand = machinewords.behind(size, rule, stand, ways[0])
        return tuple(moves)

    def test_drawn_runs(self):
        stuck = 0
        for size, rule, rooms, run in runwords.some_runs(700, 106):
            stand = runwords.walk(size, rule, runwords.first(size, rooms), run)[-1]
            moves = self.drain(size, rule, stand)
            stuck += moves is None
            expected = None if moves is None else run + moves
            self.same(expected, drained, size, rule, rooms, run)
            if expected is not None:
                # [27]: drained runs are runs, and drained already.
                self.same(len(expected), lets_run, size, rule, rooms, expected)
                self.same(expected, drained, run=expected, rooms=rooms, rule=rule, size=size)
                self.assertEqual(stand_behind(size, rule, rooms, expected)[3], ())
        self.assertGreater(stuck, 5)

    def test_what_cannot_be_drained(self):
        # By turned alone, x gives back room 0, for which the reader of y still waits.
        size = (("x", "y"), 3, 0, False)
        rule = (("turned", ()),)
        run = (("take", ("make", "y", ("x",)), 2), ("take", ("make", "x", ()), 3), ("take", ("make", "x", ("y",)), 0))
        self.same(None, drained, size, rule, 4, run)
        # Without the last take, or with one that reads nothing, there is no such ring.
        moves = (("run", 0), ("run", 1), ("leave",), ("leave",))
        self.same(run[:2] + moves, drained, size, rule, 4, run[:2])
        run = (*run[:2], ("take", ("make", "x", ()), 0))
        self.same(run + (("run", 1), ("run", 2), ("run", 0)) + (("leave",),) * 3, drained, size, rule, 4, run)
        self.same((), drained, size, rule, 4, ())

    def test_the_order_of_the_moves(self):
        size = (("x", "y"), 4, 2, True)
        run = (("enter", ("guess",)), ("take", ("make", "x", ()), 2), ("take", ("make", "y", ("x",)), 3),
               ("enter", ("guess",)))
        moves = (("run", 1), ("run", 2), ("right", 0), ("right", 3)) + (("leave",),) * 4
        self.same(run + moves, drained, size, (), 4, run)


if __name__ == "__main__":
    unittest.main()
