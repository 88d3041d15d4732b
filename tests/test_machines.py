"""[5], [6], [7], [22], [23]: stands, and the moves between them."""

import itertools
import random
import unittest

from roomsback.errors import NotPossible, NotUsable
from roomsback.machines import first_stand, is_move, is_possible, is_stand, moved, possible_moves
from tests import machinewords
from tests.test_rules import BAD, not_usable
from tests.values import STRANGE, Case

SIZE = (("x", "y"), 2, 1, True)
HASTY = (("turned", ()),)
TAKE = ("take", ("make", "x", ("x",)), 2)
START = ((0, 1), (2,), (0, 1), ())
BEHIND = ((2, 1), (0,), (0, 1), (("make", 2, (0,), 0, False),))
NO_ROOMS = [None, True, 1, 0, -1, "2", (2,), [2]]


class Forms(Case):
    def test_first_stands(self):
        self.same(START, first_stand, SIZE, 3)
        for many, rooms in itertools.product((1, 2, 3), range(10)):
            size = (("a", "b", "c")[:many], 4, 2, False)
            if rooms >= many:
                stand = (tuple(range(many)), tuple(range(many, rooms)), tuple(range(many)), ())
                self.same(stand, first_stand, rooms=rooms, size=size)
                self.same(True, is_stand, size, rooms, stand)
            else:
                self.fails(*not_usable("rooms"), first_stand, size, rooms)

    def test_each_place_of_a_stand(self):
        flight = (("make", 2, (0, 0), 1, False), ("same", 1, 1), ("guess", (0, 2)), ("guess", None))
        size = (("x", "y"), 4, 1, True)
        good = ((0, 1), (2,), (0, 1, 2), flight)
        self.same(True, is_stand, size, 3, good)
        self.same(True, is_stand, size, 10 ** 60 - 1, good)
        self.same(False, is_stand, size, 2, good)
        for at in range(4):
            self.same(False, is_stand, size, 3, good[:at] + (list(good[at]),) + good[at + 1:])
            self.same(False, is_stand, size, 3, good[:at] + good[at + 1:])
            for thing in STRANGE:
                self.same(False, is_stand, size, 3, good[:at] + (thing,) + good[at + 1:])
        for leads in ((), (0,), (0, 1, 2), (0, 3), (0, True), (0, -1), (0, None)):
            self.same(False, is_stand, size, 3, (leads, *good[1:]))
        for rooms in ((1, 0), (0, 0), (3,), (0, True), (False,), (-1,), (None,), [0]):
            self.same(False, is_stand, size, 3, (good[0], rooms, *good[2:]))
            self.same(False, is_stand, size, 3, (*good[:2], rooms, flight))
        self.same(True, is_stand, size, 3, ((2, 2), (0, 1, 2), (), ()))

    def test_each_place_of_a_step_in_flight(self):
        size = (("x", "y"), 2, 1, True)

        def stands(entry):
            return is_stand(size, 3, ((0, 1), (), (), (entry,)))

        for entry in [("make", 2, (), 2, True), ("make", 0, (2, 1), 0, False), ("same", 0, 0), ("same", 2, 1),
                      ("guess", (2, 2)), ("guess", None)]:
            self.assertIs(stands(entry), True)
            self.assertIs(stands(list(entry)), False)
            self.assertIs(stands(entry[:-1]), False)
            self.assertIs(stands((*entry, 0)), False)
            self.assertIs(stands((entry[0] + "s", *entry[1:])), False)
            for at, thing in itertools.product(range(len(entry)), [*STRANGE, 3, "make", "same", "guess"]):
                if (entry[0], at, thing) not in [("guess", 1, None), ("make", 4, True), ("make", 4, False)]:
                    changed = (*entry[:at], thing, *entry[at + 1:])
                    self.assertIs(stands(changed), repr(changed) == repr(entry), changed)
        for entry in [("make", 0, (0, 1, 2), 0, True), ("make", 0, [0], 0, True), ("make", 0, (3,), 0, True),
                      ("make", 0, (), 0, 1), ("make", 0, (), 0, None), ("make", 0, (True,), 0, True),
                      ("guess", (0,)), ("guess", (0, 1, 2)), ("guess", (0, 3)), ("guess", ()), ("guess", [0, 1]),
                      ("guess", False), ("guess",), ("same", 0), ("same", "x", "y"), (), None, "guess"]:
            self.assertIs(stands(entry), False, entry)

    def test_bounds_of_the_size(self):
        make, same, done, opened = ("make", 0, (), 0, True), ("same", 0, 0), ("guess", None), ("guess", (0,))
        for places, guesses, copies in itertools.product((1, 2, 3), (0, 1, 2), (False, True)):
            size = (("x",), places, guesses, copies)
            for flight in itertools.chain(*[itertools.product((make, same, done, opened), repeat=k) for k in range(5)]):
                expected = len(flight) <= places and flight.count(opened) <= guesses
                expected = expected and (copies or same not in flight)
                expected = expected and (guesses >= 1 or done not in flight)
                self.assertIs(is_stand(size, 1, ((0,), (), (), flight)), expected)

    def test_forms_of_moves(self):
        for size in machinewords.SIZES:
            steps = machinewords.steps((("a", "b", "in", "of", "x"), 1, 1, True))
            for step in steps:
                own = step in machinewords.steps(size)
                for room in (0, 9, 10 ** 60 - 1):
                    self.same(own and step[0] == "make", is_move, size, ("take", step, room))
                self.same(own and step[0] != "make", is_move, size, ("enter", step))
                for thing in (True, -1, None, "0", (0,), [0]):
                    self.same(False, is_move, size, ("take", step, thing))
                for move in (("take", step), ("taken", step, 0), ("enters", step), ("enter", step, 0), ("take", step, 0, 0), ("enter", list(step)),
                             ["enter", step], ["take", step, 0], (step,), step):
                    self.same(False, is_move, size, move)
            for word in ("run", "right", "wrong"):
                self.same(True, is_move, size, (word, 0))
                self.same(True, is_move, size, thing=(word, 10 ** 60 - 1))
                for thing in (True, -1, None, "0", (0,), [0]):
                    self.same(False, is_move, size, (word, thing))
                for move in ((word,), (word, 0, 0), [word, 0], (word + "s", 0)):
                    self.same(False, is_move, size, move)
            self.same(True, is_move, size, ("leave",))
            for thing in [*STRANGE, (), ("leave", 0), ["leave"], "leave", ("enter",), ("take",), ("run",)]:
                self.same(False, is_move, size, thing)
                self.same(False, is_move, size, ("enter", thing) if thing != ("guess",) else thing)
                self.same(False, is_move, size, ("take", thing, 0))

    def test_wrong_arguments(self):
        for thing in STRANGE:
            self.fails(*not_usable("size"), first_stand, thing, None)
            self.fails(*not_usable("size"), is_stand, thing, None, None)
            self.fails(*not_usable("size"), is_stand, thing=None, rooms=None, size=thing)
            self.fails(*not_usable("size"), is_move, thing, None)
            self.same(False, is_stand, SIZE, 3, thing)
        for rooms in NO_ROOMS:
            self.fails(*not_usable("rooms"), first_stand, SIZE, rooms)
            self.fails(*not_usable("rooms"), is_stand, SIZE, rooms, None)


class Moves(Case):
    def test_examples(self):
        self.same(False, is_possible, SIZE, START, ("leave",))
        self.assertEqual(len(list(possible_moves(SIZE, START))), 11)
        self.same(BEHIND, moved, SIZE, HASTY, START, TAKE)
        self.fails(NotPossible, {"at": -1}, moved, SIZE, HASTY, START, ("run", 0))

    def test_against_the_words_of_the_document(self):
        chance = random.Random(41)
        for size, rooms, stand in machinewords.some_stands(700, 42):
            self.assertIs(is_stand(size, rooms, stand), True)
            ways = machinewords.moves(size, rooms + 1)
            possible = [move for move in ways if machinewords.possible(size, stand, move)]
            self.assertEqual(list(possible_moves(size, stand)), possible)
            for move in chance.sample(ways, min(20, len(ways))):
                self.same(move in possible, is_possible, size, stand, move)
                if move not in possible:
                    self.fails(NotPossible, {"at": -1}, moved, size, (), stand, move)
            for move in chance.sample(possible, min(12, len(possible))):
                for rule in ((), HASTY, machinewords.a_rule(chance), machinewords.a_rule(chance)):
                    expected = machinewords.behind(size, rule, stand, move)
                    self.same(expected, moved, size, rule, stand, move)
                    self.assertIs(is_stand(size, rooms, expected), True)

    def test_a_take(self):
        # The room that is taken may be led to by the name itself, and is given back again at once.
        stand = ((0, 1), (0,), (0, 1), ())
        self.same(((0, 1), (), (1,), (("make", 0, (), 0, False),)), moved, SIZE, (), stand, ("take", ("make", "x", ()), 0))
        self.same(((0, 1), (0,), (1,), (("make", 0, (), 0, False),)),
                  moved, SIZE, HASTY, stand, ("take", ("make", "x", ()), 0))
        self.same(False, is_possible, SIZE, stand, ("take", ("make", "x", ("x",)), 0))
        self.same(False, is_possible, SIZE, stand, ("take", ("make", "y", ("x", "y")), 0))
        self.same(True, is_possible, SIZE, stand, ("take", ("make", "x", ("y",)), 0))
        self.same(False, is_possible, SIZE, stand, ("take", ("make", "x", ()), 1))

    def test_a_same_of_one_room(self):
        stand = ((1, 1), (), (0, 1), ())
        self.same(((1, 1), (1,), (0, 1), (("same", 1, 1),)), moved, SIZE, HASTY, stand, ("enter", ("same", "x", "y")))

    def test_guesses(self):
        size = (("x", "y"), 4, 1, True)
        flight = (("guess", (0, 1)), ("make", 2, (1, 1), 0, False), ("make", 3, (0,), 1, True), ("same", 3, 2))
        stand = ((3, 3), (), (0, 1, 3), flight)
        everything = tuple(sorted((moment, ()) for moment in machinewords.MOMENTS))
        self.same(((0, 1), (1, 2, 3), (0, 1, 3), (("guess", None),)), moved, size, everything, stand, ("wrong", 0))
        self.same(((3, 3), (0, 1), (0, 1, 3), (("guess", None), *flight[1:])),
                  moved, size, everything, stand, ("right", 0))
        self.same(((0, 1), (2, 3), (0, 1, 3), (("guess", None),)),
                  moved, size, (("gone", ("name",)),), stand, ("wrong", 0))
        self.same(False, is_possible, size, stand, ("leave",))
        self.same(False, is_possible, size, stand[:3] + (flight[:2],), ("enter", ("guess",)))
        self.same(True, is_possible, size, stand[:3] + (flight[1:],), ("run", 0))

    def test_possible_is_any_value(self):
        for thing in [*STRANGE, (), ("leave", 0), ["leave"], ("run", True), ("run", 10 ** 60 - 1), ("run", -1),
                      ("take", ("make", "x", ("x",)), True), ("take", ("make", "z", ()), 2), list(TAKE)]:
            self.same(False, is_possible, SIZE, BEHIND, thing)
            self.fails(NotPossible, {"at": -1}, moved, SIZE, (), BEHIND, thing)
            self.fails(NotPossible, {"at": -1}, moved, move=thing, stand=START, rule=(), size=SIZE)

    def test_more_free_rooms_bar_nothing(self):
        chance = random.Random(43)
        for size, rooms, stand in machinewords.some_stands(150, 44):
            more = tuple(sorted({*stand[1], *chance.sample(range(rooms + 2), 2)}))
            for move in possible_moves(size, stand):
                self.assertTrue(is_possible(size, (stand[0], more, *stand[2:]), move))

    def test_wrong_arguments(self):
        stands = [*STRANGE, (), [], START[:3], list(START), ((0,), (), (), ()), ((0, 1, 2), (), (), ()),
                  ((0, 1), (), (), (("same", 0, 0),) * 3), ((0, 1), (), (), (("guess", (0, 1)),) * 2)]
        for thing in STRANGE:
            for call in (is_possible, lambda size, stand, move: list(possible_moves(size, stand)),
                         lambda size, stand, move: moved(size, None, stand, move)):
                self.fails(*not_usable("size"), call, thing, thing, thing)
            self.fails(*not_usable("size"), moved, move=None, stand=None, rule=None, size=thing)
            # The error comes when the first move is asked for.
            self.fails(*not_usable("size"), next, possible_moves(stand=None, size=thing))
        for thing in BAD:
            self.fails(*not_usable("rule"), moved, SIZE, thing, None, None)
        for stand in stands:
            self.fails(*not_usable("stand"), is_possible, SIZE, stand, None)
            self.fails(*not_usable("stand"), moved, SIZE, HASTY, stand, None)
            self.fails(*not_usable("stand"), next, possible_moves(SIZE, stand))
        self.fails(NotUsable, {"word": "stand", "at": -1}, is_possible, move=None, stand=None, size=SIZE)


if __name__ == "__main__":
    unittest.main()
