"""[10], [39]: runs along which a room has a given path."""

import unittest

from roomsback.lifting import run_of
from roomsback.rulechanges import full_rule
from roomsback.runs import lets_run
from roomsback.viewing import path_of
from tests import runwords, viewwords
from tests.test_machines import HASTY, SIZE
from tests.test_paths import HELD, NO_STARTS, READ, TWO
from tests.test_rules import BAD, not_usable
from tests.values import STRANGE, Case


class Lifting(Case):
    def is_lifted(self, size, rule, path):
        lifted = run_of(size, rule, path)
        self.assertIs(lifted.__class__, tuple)
        rooms, run, room = lifted
        makes = [move for move in path[1] if len(move) == 2 and move[0] in ("take", "enter") and move[1][0] == "make"]
        self.assertEqual(rooms, len(size[0]) + len(makes) + 1)
        self.same(len(run), lets_run, size, rule, rooms, run)
        self.same(path, path_of, size, rule, rooms, run, room)
        # By the machine of the tests, too, it is a run, and the room is seen as the path has it at its end.
        stands = runwords.walk(size, rule, runwords.first(size, rooms), run)
        self.assertEqual(len(stands), len(run) + 1)
        self.assertEqual(viewwords.view_at(size, stands[-1], room), viewwords.walk(size, rule, *path)[-1])

    def test_examples(self):
        self.assertEqual(run_of(SIZE, HASTY, TWO)[0], 5)
        self.is_lifted(SIZE, HASTY, TWO)

    def test_drawn_paths(self):
        for size, rule, path in viewwords.some_paths(500, 191, 40):
            self.is_lifted(size, rule, path)

    def test_paths_along_drawn_rooms(self):
        for size, rule, rooms, run in runwords.some_runs(150, 192):
            for room in range(rooms):
                self.is_lifted(size, rule, path_of(size, rule, rooms, run, room))

    def test_all_short_paths(self):
        size = (("a", "b"), 2, 1, True)
        for rule in (HASTY, full_rule(), ()):
            paths = [(start, ()) for start in viewwords.starts(size)]
            for start, moves in paths:
                self.is_lifted(size, rule, (start, moves))
                view = viewwords.walk(size, rule, start, moves)[-1]
                if len(moves) < 2:
                    paths += [(start, (*moves, move)) for move in viewwords.moves(size, view)
                              if not moves or not viewwords.in_hands(size, viewwords.walk(size, rule, start, moves)[-2], moves[-1])]

    def test_no_moves(self):
        for size in viewwords.SMALL:
            for start in viewwords.starts(size):
                self.is_lifted(size, (), (start, ()))
                self.assertEqual(run_of(size, (), (start, ()))[:2], (len(size[0]) + 1, ()))

    def test_wrong_arguments(self):
        for thing in STRANGE:
            self.fails(*not_usable("size"), run_of, thing, thing, thing)
            self.fails(*not_usable("size"), run_of, path=None, rule=None, size=thing)
        for thing in BAD:
            self.fails(*not_usable("rule"), run_of, SIZE, thing, None)
        for thing in [*STRANGE, (), TWO[:1], list(TWO), (HELD, list(TWO[1])), (HELD, (TWO[1][1],)), (HELD, (READ, None)),
                      (HELD, (*TWO[1], ("run", 0))), (HELD, (("run", True),)), *[(start, ()) for start in NO_STARTS]]:
            self.fails(*not_usable("path"), run_of, SIZE, HASTY, thing)
        self.fails(*not_usable("path"), run_of, path=TWO, rule=(), size=SIZE)


if __name__ == "__main__":
    unittest.main()
