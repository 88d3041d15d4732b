"""[7], [9], [24]: looking at the rooms of a stand."""

import random
import unittest

from roomsback.errors import NotPossible
from roomsback.lookings import holders_of, moments_of, needs_of, places_of
from tests import machinewords
from tests.test_machines import BEHIND, SIZE, START, TAKE
from tests.test_rules import not_usable
from tests.values import STRANGE, Case

NO_STANDS = [*STRANGE, (), [], list(START), START[:3], ((), (), (), ()), ((0,), (1, 0), (), ()), ((0,), (), (), []),
             ((0,), (), (), (("make", 0, (0, 0), 0, True),)), ((0,), (), (), (("guess", (0, 0)),)),
             ((0,), (), (), (("make", 0, (), 0, 1),)), ((True,), (), (), ())]
NO_ROOMS = [thing for thing in STRANGE if thing != 10 ** 60 - 1]


class Lookings(Case):
    def test_examples(self):
        self.same(("reader",), needs_of, BEHIND, 0)
        self.same(("maker", "name"), needs_of, BEHIND, 2)
        self.same(("turned",), moments_of, SIZE, START, TAKE, 0)
        self.same(("x",), holders_of, SIZE, BEHIND, 2)
        self.same((0,), places_of, BEHIND, 0)

    def test_against_the_words_of_the_document(self):
        chance = random.Random(51)
        for size, rooms, stand in machinewords.some_stands(500, 52):
            for room in (*range(rooms + 1), 10 ** 60 - 1):
                self.same(machinewords.needs(size, stand, room), needs_of, stand, room)
                self.same(machinewords.touching(stand, room), places_of, room=room, stand=stand)
                names = tuple(name for name, lead in zip(size[0], stand[0]) if lead == room)
                self.same(names, holders_of, size, stand, room)
            ways = machinewords.moves(size, rooms)
            possible = [move for move in ways if machinewords.possible(size, stand, move)]
            for move in chance.sample(possible, min(15, len(possible))):
                by_room = machinewords.change(size, stand, move)[1]
                for room in range(rooms + 1):
                    expected = tuple(sorted(by_room.get(room, ())))
                    self.same(expected, moments_of, size, stand, move, room)

    def test_steps_that_touch(self):
        flight = (("make", 0, (1, 2), 3, True), ("same", 4, 5), ("guess", None), ("guess", (0, 1)),
                  ("make", 5, (), 5, False))
        stand = ((0, 1), (), (), flight)
        for room, places in enumerate([(0, 2, 3), (0, 2, 3), (0, 2, 3), (0, 2, 3), (1, 2, 3), (1, 2, 3, 4), (2, 3)]):
            self.same(places, places_of, stand, room)

    def test_stands_of_any_size(self):
        # More than the sizes of the other stages have, and all kinds of steps.
        stand = (tuple(range(5)), (), (), (("guess", (9,) * 5),) * 3 + (("same", 0, 7),) * 3)
        self.same(("picture",), needs_of, stand, 9)
        self.same((0, 1, 2, 3, 4, 5), places_of, stand, 7)

    def test_what_is_not_possible(self):
        for thing in [*STRANGE, ("leave",), ("right", 0), ("run", 1), ("run", True), ("take", TAKE[1], 1), list(TAKE)]:
            self.fails(NotPossible, {"at": -1}, moments_of, SIZE, BEHIND, thing, 0)
            self.fails(*not_usable("room"), moments_of, SIZE, BEHIND, thing, None)

    def test_wrong_arguments(self):
        for thing in NO_STANDS:
            self.fails(*not_usable("stand"), needs_of, thing, None)
            self.fails(*not_usable("stand"), needs_of, room=None, stand=thing)
            self.fails(*not_usable("stand"), places_of, thing, None)
            self.fails(*not_usable("stand"), holders_of, SIZE, thing, None)
            self.fails(*not_usable("stand"), moments_of, SIZE, thing, None, None)
        for thing in STRANGE:
            self.fails(*not_usable("size"), holders_of, thing, None, None)
            self.fails(*not_usable("size"), moments_of, thing, None, None, None)
            self.fails(*not_usable("size"), moments_of, room=None, move=None, stand=None, size=thing)
        for thing in NO_ROOMS:
            self.fails(*not_usable("room"), needs_of, START, thing)
            self.fails(*not_usable("room"), places_of, START, thing)
            self.fails(*not_usable("room"), holders_of, SIZE, START, thing)
            self.fails(*not_usable("room"), moments_of, SIZE, START, TAKE, thing)
        self.fails(*not_usable("stand"), holders_of, (("x",), 2, 1, True), START, 0)
        self.fails(*not_usable("stand"), moments_of, (("x", "y", "z"), 2, 1, True), START, TAKE, 0)


if __name__ == "__main__":
    unittest.main()
