"""[9], [38], [46]: how one room of a machine is seen, and its path along a run."""

import random
import unittest

from roomsback.paths import lets_path, view_at_end
from roomsback.viewing import path_of, view_of
from tests import machinewords, runwords, viewwords
from tests.test_lookings import NO_STANDS
from tests.test_machines import BEHIND, HASTY, NO_ROOMS, SIZE, START
from tests.test_paths import TWO
from tests.test_rules import BAD, not_usable
from tests.test_runs import FAST, NO_RUNS
from tests.values import STRANGE, Case


def seen(size, stand, after, move, room):
    """[38]: the move of views that comes of a move between two stands, None if none does."""
    def entry(k):
        return machinewords.touching(stand, room).index(k)

    word = move[0]
    if word == "take":
        if move[2] == room:
            return "take", ("make", move[1][1], ())
        if len(stand[3]) not in machinewords.touching(after, room):
            return None
        leads = dict(zip(size[0], stand[0]))
        sources = sorted(name for name in move[1][2] if leads[name] == room)
        return "enter", ("make", move[1][1], tuple(sources[:1]))
    if word == "enter":
        return move if len(stand[3]) in machinewords.touching(after, room) else None
    if word == "leave":
        return move if 0 in machinewords.touching(stand, room) else None
    if word == "run" and room not in (stand[3][move[1]][1], *stand[3][move[1]][2]):
        return None
    return word, entry(move[1])


def take_in_hands(size, stand, after, move, room):
    """[9], in the words of a machine: whether this is a take of the room in two hands."""
    if move[0] != "take" or move[2] != room:
        return False
    leads = tuple(None if name == move[1][1] else lead for name, lead in zip(size[0], after[0]))
    return machinewords.needs(size, (leads, *after[1:3], after[3][:-1]), room) != ()


class Views(Case):
    def test_examples(self):
        self.same(((), True, False, ()), view_of, SIZE, START, 2)
        self.same(True, lambda: path_of(SIZE, HASTY, 3, FAST, 0) == TWO)
        self.same(((("y",), False, True, ()), (("enter", ("make", "y", ())),)), path_of, SIZE, HASTY, 3, FAST, 1)

    def test_drawn_stands(self):
        tried = 0
        for size, rooms, stand in machinewords.some_stands(500, 181):
            if any(entry[0] == "make" and entry[1] in entry[2] for entry in stand[3]):
                continue
            tried += 1
            for room in (*range(rooms + 1), 10 ** 60 - 1):
                self.same(viewwords.view_at(size, stand, room), view_of, size, stand, room)
        self.assertGreater(tried, 300)

    def test_each_word(self):
        size = (("a", "b"), 5, 2, True)
        flight = (("make", 0, (1, 2), 3, False), ("make", 4, (1, 2), 5, True), ("same", 6, 7), ("guess", None),
                  ("guess", (1, 6)))
        stand = ((6, 6), (3,), (4, 6), flight)
        for room, names, free, filled, entries in [
                (0, (), False, False, (("makes",), (), ("guess", ()))),
                (1, (), False, False, (("reads",), (), (), ("guess", ("a",)))),
                (3, (), True, False, (("turns",), (), ("guess", ()))),
                (4, (), False, True, (("made",), (), ("guess", ()))),
                (5, (), False, False, (("turns",), (), ("guess", ()))),
                (6, ("a", "b"), False, True, ((), (), ("guess", ("b",)))),
                (7, (), False, False, (("turns",), (), ("guess", ()))),
                (8, (), False, False, ((), ("guess", ())))]:
            self.same((names, free, filled, entries), view_of, room=room, stand=stand, size=size)
        # A make that turns the room that it takes, and a same that turns the room to which it leads.
        flight = (("make", 0, (), 0, False), ("make", 0, (1,), 0, True), ("make", 1, (0,), 0, False), ("same", 0, 0))
        self.same(((), False, False, (("makes", "turns"), ("made", "turns"), ("reads", "turns"), ("turns",))),
                  view_of, size, ((1, 1), (), (), flight), 0)

    def test_wrong_arguments(self):
        for thing in STRANGE:
            self.fails(*not_usable("size"), view_of, thing, thing, thing)
            self.fails(*not_usable("size"), view_of, room=None, stand=None, size=thing)
            if thing != 10 ** 60 - 1:
                self.fails(*not_usable("room"), view_of, SIZE, BEHIND, thing)
        for thing in NO_STANDS:
            self.fails(*not_usable("stand"), view_of, SIZE, thing, None)
        self.fails(*not_usable("stand"), view_of, (("x",), 2, 1, True), START, 0)


class AlongRuns(Case):
    def test_drawn_runs(self):
        cut = 0
        for size, rule, rooms, run in runwords.some_runs(250, 182):
            stands = runwords.walk(size, rule, runwords.first(size, rooms), run)
            for room in range(rooms):
                cut += self.along(size, rule, rooms, run, stands, room)
        self.assertGreater(cut, 25)

    def along(self, size, rule, rooms, run, stands, room):
        """Whether the path of the room ends before the run does; all of it is as the words of the document are."""
        moves = []
        views = [viewwords.view_at(size, stands[0], room)]
        is_cut = False
        for move, stand, after in zip(run, stands, stands[1:]):
            found = seen(size, stand, after, move, room)
            if found is not None:
                moves.append(found)
                views.append(viewwords.behind(size, rule, views[-1], found))
            self.assertEqual(views[-1], viewwords.view_at(size, after, room))
            if take_in_hands(size, stand, after, move, room):
                is_cut = True
                break
        path = (views[0], tuple(moves))
        self.same(path, path_of, size, rule, rooms, run, room)
        self.same(len(moves), lets_path, size, rule, path)
        self.same(views[-1], view_at_end, size, rule, path)
        return is_cut

    def test_behind_each_move(self):
        # [46], for runs without a take in two hands.
        for size, rule, rooms, run in runwords.some_runs(60, 183):
            if rule not in ((), runwords.FULL):
                continue
            stands = runwords.walk(size, rule, runwords.first(size, rooms), run)
            for k, stand in enumerate(stands):
                for room in range(rooms):
                    path = path_of(size, rule, rooms, run[:k], room)
                    view = view_at_end(size, rule, path)
                    self.assertEqual(view, view_of(size, stand, room))
                    has_open = any(entry[:1] == ("guess",) and entry[1:] not in ((), ((),)) for entry in view[3])
                    used = any(word in entry for entry in view[3] for word in ("makes", "reads"))
                    self.assertEqual(bool(view[0]) or has_open or used, machinewords.needs(size, stand, room) != ())

    def test_the_least_source_remains(self):
        size = (("a", "b", "c"), 3, 0, True)
        run = (("enter", ("same", "c", "b")), ("take", ("make", "a", ("a", "b", "c")), 3))
        start = ("b",), False, True, ()
        self.same((start, (run[0], ("enter", ("make", "a", ("b",))))), path_of, size, (), 4, run, 1)
        self.same(((("a",), False, True, ()), (("enter", ("make", "a", ("a",))),)), path_of, size, (), 4, run, 0)
        self.same(((("c",), False, True, ()), (run[0],)), path_of, size, (), 4, run, 2)
        self.same((((), True, False, ()), (("take", ("make", "a", ())),)), path_of, size, (), 4, run, 3)

    def test_what_does_not_touch_is_left_out(self):
        size = (("a", "b"), 4, 1, True)
        run = (("take", ("make", "b", ()), 2), ("enter", ("guess",)), ("take", ("make", "b", ("a",)), 3), ("run", 0),
               ("run", 2), ("right", 1), ("leave",), ("leave",), ("leave",))
        self.same(((("a",), False, True, ()),
                   (("enter", ("guess",)), ("enter", ("make", "b", ("a",))), ("run", 1), ("right", 0), ("leave",), ("leave",))),
                  path_of, size, (), 4, run, 0)
        self.same(((("b",), False, True, ()),
                   (("enter", ("make", "b", ())), ("enter", ("guess",)), ("right", 1), ("leave",), ("leave",))),
                  path_of, size, (), 4, run, 1)

    def test_first_take_in_two_hands(self):
        # Room 0 is given back at once, and taken while it is read; what comes behind is not told.
        path = path_of(SIZE, HASTY, 3, FAST[:2], 0)
        for many in range(2, 6):
            self.same(path, path_of, SIZE, HASTY, 3, FAST[:many], 0)
        self.assertEqual(len(path_of(SIZE, HASTY, 3, FAST[:1], 0)[1]), 1)

    def test_wrong_arguments(self):
        for thing in STRANGE:
            self.fails(*not_usable("size"), path_of, thing, thing, thing, thing, thing)
            self.fails(*not_usable("size"), path_of, room=None, run=None, rooms=None, rule=None, size=thing)
        for thing in BAD:
            self.fails(*not_usable("rule"), path_of, SIZE, thing, None, None, None)
        for thing in NO_ROOMS:
            self.fails(*not_usable("rooms"), path_of, SIZE, HASTY, thing, None, None)
        for thing in NO_RUNS:
            self.fails(*not_usable("run"), path_of, SIZE, HASTY, 3, thing, None)
        for thing in [*STRANGE, 3, 4, "0", (0,), 10 ** 59]:
            self.fails(*not_usable("room"), path_of, SIZE, HASTY, 3, FAST, thing)
        self.fails(*not_usable("room"), path_of, room=True, run=FAST, rooms=3, rule=HASTY, size=SIZE)


if __name__ == "__main__":
    unittest.main()
