"""[29]: the lines of moves, of runs, and of the rooms in a stand."""

import random
import unittest

from roomsback.movereadings import move_read, run_read
from roomsback.movetexts import move_text, run_text, stand_rows
from tests import machinewords, runwords
from tests.test_machines import BEHIND, NO_ROOMS, SIZE, START, TAKE
from tests.test_movereadings import SIZES, line_of, moves_of
from tests.test_rules import not_usable
from tests.test_runs import FAST
from tests.values import STRANGE, Case

NO_MOVES = [*STRANGE, (), ("take", ("same", "a", "b"), 0), ("take", ("guess",), 0), ("enter", ("make", "a", ())),
            ("enter",), ("take", ("make", "a", ()), True), ("take", ("make", "a", ())), ("run",), ("run", -1),
            ("run", True), ("leave", 0), ("take", ("make", "a", ("b", "a")), 0), ("enter", ("same", "a", "a")),
            ["leave"], ("left",), ("run", "0"), ("right", 0, 0), list(TAKE), ("room",), ("rule", ())]


class Texts(Case):
    def test_examples(self):
        self.same("take make x of x in 2", move_text, TAKE)
        self.same([" 0 free filled -        reader", " 1 held filled y        name",
                   " 2 held empty  x        maker,name"], stand_rows, SIZE, 3, BEHIND)
        self.assertIs(run_read(SIZE, run_text(FAST)) == FAST, True)

    def test_each_kind_of_move(self):
        for move, text in [
                (("take", ("make", "x", ("x", "y")), 3), "take make x of x y in 3"),
                (("take", ("make", "x", ()), 10 ** 60 - 1), "take make x in " + "9" * 60),
                (("enter", ("guess",)), "enter guess"), (("enter", ("same", "x", "of")), "enter same x of"),
                (("run", 0), "run 0"), (("right", 12), "right 12"), (("wrong", 3), "wrong 3"), (("leave",), "leave")]:
            self.same(text, move_text, move=move)

    def test_moves_and_runs(self):
        chance = random.Random(121)
        for size in SIZES:
            moves = moves_of(size, (0, 9, 10, 10 ** 60 - 1))
            for move in moves:
                self.same(line_of(move), move_text, move)
                self.same(move, move_read, size, move_text(move))
            for _ in range(40):
                run = tuple(chance.choice(moves) for _ in range(chance.randrange(9)))
                self.same("\n".join(map(line_of, run)), run_text, run)
                self.same(run, run_read, size, run_text(run=run))
        self.same("", run_text, ())

    def test_rows_of_drawn_stands(self):
        for size, rooms, stand in machinewords.some_stands(250, 122):
            rows = stand_rows(size, rooms, stand)
            self.assertIs(rows.__class__, list)
            self.assertEqual(len(rows), rooms)
            for room, row in enumerate(rows):
                names = [name for name, lead in zip(size[0], stand[0]) if lead == room]
                words = [str(room).rjust(2), "free" if room in stand[1] else "held",
                         ("filled" if room in stand[2] else "empty").ljust(6), (",".join(names) or "-").ljust(8),
                         ",".join(machinewords.needs(size, stand, room)) or "-"]
                self.assertEqual(row, " ".join(words))

    def test_wide_rows(self):
        size = (("abcdefgh", "ijklmnop", "z"), 1, 0, False)
        stand = ((2, 2, 0), (), (), ())
        self.same([" 0 held empty  z        name", " 1 held empty  -        -",
                   " 2 held empty  abcdefgh,ijklmnop name"], stand_rows, size, 3, stand)
        rows = stand_rows(size, 101, runwords.first(size, 101))
        self.assertEqual(rows[9:11] + rows[100:], [" 9 free empty  -        -", "10 free empty  -        -",
                                                   "100 free empty  -        -"])

    def test_wrong_arguments(self):
        for thing in NO_MOVES:
            self.fails(*not_usable("move"), move_text, thing)
            self.fails(*not_usable("move"), move_text, move=thing)
            if thing != ():
                self.fails(*not_usable("run"), run_text, thing)
            self.fails(*not_usable("run"), run_text, run=(*FAST, thing))
        self.fails(*not_usable("run"), run_text, list(FAST))
        for thing in STRANGE:
            self.fails(*not_usable("size"), stand_rows, thing, thing, thing)
            self.fails(*not_usable("size"), stand_rows, stand=None, rooms=None, size=thing)
            self.fails(*not_usable("stand"), stand_rows, SIZE, 3, thing)
        for thing in NO_ROOMS:
            self.fails(*not_usable("rooms"), stand_rows, SIZE, thing, None)
        # A stand of this number of rooms has none that is greater.
        self.fails(*not_usable("stand"), stand_rows, SIZE, 2, START)
        self.fails(*not_usable("stand"), stand_rows, SIZE, 2, BEHIND)
        self.fails(*not_usable("stand"), stand_rows, (("x",), 2, 1, True), 3, START)
        self.assertEqual(len(stand_rows(SIZE, 5, START)), 5)


if __name__ == "__main__":
    unittest.main()
