"""[8], [28]: what makes read, what they were due to read, and the plain machine."""

import unittest

from roomsback.results import does_show, plain_cells, results_read
from tests import machinewords, runwords
from tests.test_machines import HASTY, NO_ROOMS, SIZE
from tests.test_rules import BAD, not_usable
from tests.test_runs import FAST, NO_RUNS
from tests.values import STRANGE, Case


class Results(Case):
    def test_examples(self):
        self.same(((0, (1,), ("x",)),), results_read, SIZE, HASTY, 3, FAST)
        self.same((0, 1), plain_cells, SIZE, HASTY, 3, FAST)
        self.same(True, does_show, SIZE, HASTY, 3, FAST)

    def test_drawn_runs(self):
        shown = dropped = 0
        for size, rule, rooms, run in runwords.some_runs(900, 111):
            known = runwords.Reckoned(size, run)
            self.same(known.triples(), results_read, size, rule, rooms, run)
            self.same(known.plain()[0], plain_cells, size, rule, rooms, run)
            self.same(known.shows(), does_show, run=run, rooms=rooms, rule=rule, size=size)
            shown += known.shows()
            dropped += any(step["dropped"] for step in known.steps)
        self.assertGreater(shown, 10)
        self.assertGreater(dropped, 50)

    def test_a_rule_that_gives_nothing_back_too_soon_never_shows(self):
        for size, rule, rooms, run in runwords.some_runs(300, 112):
            if rule in ((), runwords.FULL):
                self.same(False, does_show, size, rule, rooms, run)
                for _, read, due in results_read(size, rule, rooms, run):
                    self.assertEqual(read, due)

    def test_nothing_left(self):
        self.same((), results_read, SIZE, HASTY, 3, ())
        self.same(("x", "y"), plain_cells, SIZE, HASTY, 3, ())
        self.same(False, does_show, SIZE, HASTY, 3, ())
        # What is read wrongly shows only when it leaves.
        self.same(False, does_show, SIZE, HASTY, 3, FAST[:4])
        self.same((), results_read, SIZE, HASTY, 3, FAST[:4])
        self.same((0, "y"), plain_cells, SIZE, HASTY, 3, FAST[:1])

    def test_dropped_steps_are_counted_and_left_out(self):
        size = (("x", "y"), 4, 2, True)
        run = (("enter", ("guess",)), ("take", ("make", "x", ()), 2), ("enter", ("same", "y", "x")), ("run", 1))
        self.same((1, 1), plain_cells, size, (), 4, run)
        run = (*run, ("wrong", 0), ("take", ("make", "x", ("x", "y")), 3), ("run", 1), ("leave",), ("leave",))
        self.same((3, "y"), plain_cells, size, (), 4, run)
        self.same(((3, ("x", "y"), ("x", "y")),), results_read, size, (), 4, run)

    def test_copies_and_sources_in_their_order(self):
        size = (("a", "b", "c"), 4, 2, True)
        run = (("take", ("make", "b", ()), 3), ("enter", ("same", "a", "c")), ("enter", ("same", "c", "b")),
               ("take", ("make", "a", ("a", "b", "c")), 4), ("run", 0), ("run", 3), *[("leave",)] * 4)
        self.same(((0, (), ()), (3, ("c", 0, 0), ("c", 0, 0))), results_read, size, (), 5, run)
        self.same((3, 0, 0), plain_cells, size, (), 5, run)

    def test_a_room_keeps_what_was_in_it(self):
        # Room 0 is given back at once, and taken again; its old result is there until the new make runs.
        size = (("x", "y"), 3, 0, False)
        rule = (("turned", ()),)
        run = (("take", ("make", "x", ()), 2), ("take", ("make", "y", ()), 0), ("take", ("make", "y", ("x",)), 1),
               ("run", 0), ("run", 1), ("run", 2), *[("leave",)] * 3)
        self.same(((0, (), ()), (1, (), ()), (2, (0,), (0,))), results_read, size, rule, 3, run)
        # A dropped make that has run leaves its result in the room to which no name leads.
        size = (("x",), 3, 1, False)
        rule = (("gone", ()), ("turned", ()))
        run = (("enter", ("guess",)), ("take", ("make", "x", ()), 1), ("take", ("make", "x", ()), 0), ("run", 2),
               ("wrong", 0), ("take", ("make", "x", ("x",)), 1), ("run", 1), ("leave",), ("leave",))
        self.same(((3, (2,), ("x",)),), results_read, size, rule, 2, run)
        self.same(True, does_show, size, rule, 2, run)

    def test_nobody_shows_what_was_dropped(self):
        # The wrong read is dropped, so it never leaves.
        size = (("x", "y"), 3, 1, False)
        run = (("enter", ("guess",)), ("take", ("make", "x", ("x",)), 2), ("take", ("make", "y", ()), 0), ("run", 2),
               ("run", 1), ("wrong", 0), ("leave",))
        self.same(False, does_show, size, HASTY, 3, run)
        self.same((), results_read, size, HASTY, 3, run)

    def test_wrong_arguments(self):
        for call in (results_read, plain_cells, does_show):
            for thing in STRANGE:
                self.fails(*not_usable("size"), call, thing, thing, thing, thing)
                self.fails(*not_usable("size"), call, run=None, rooms=None, rule=None, size=thing)
            for thing in BAD:
                self.fails(*not_usable("rule"), call, SIZE, thing, None, None)
            for thing in NO_ROOMS:
                self.fails(*not_usable("rooms"), call, SIZE, HASTY, thing, None)
            for thing in NO_RUNS:
                self.fails(*not_usable("run"), call, SIZE, HASTY, 3, thing)
            self.fails(*not_usable("run"), call, run=FAST, rooms=3, rule=(), size=SIZE)


if __name__ == "__main__":
    unittest.main()
