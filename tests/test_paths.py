"""[9], [34] to [37]: paths, and the views behind them."""

import random
import unittest

from roomsback.errors import InvalidPaper
from roomsback.paths import lets_path, view_at_end
from roomsback.rulechanges import every_moment, full_rule
from tests import machinewords, viewwords
from tests.test_machines import HASTY, SIZE
from tests.test_rules import BAD, not_usable
from tests.values import STRANGE, Case

HELD = (("x",), False, True, ())
READ = ("enter", ("make", "x", ("x",)))
TWO = (HELD, (READ, ("take", ("make", "y", ()))))
# Values that are nearly views, or views to which no path of SIZE leads at first.
NO_STARTS = [*STRANGE, (), HELD[:3], (*HELD, ()), list(HELD), (["x"], False, True, ()), (("x",), 0, 1, ()), ((), 1, 0, ()),
             (("x",), False, True, []), (("z",), False, True, ()), (("x", "y"), False, True, ()), ((), False, False, ()),
             (("x",), True, True, ()), ((), True, True, ()), (("x",), False, True, ((),)), ("x", False, True, ())]


def paper(word, at):
    return InvalidPaper, {"word": word, "at": at}


def changed(size, path, chance):
    """A pair that is the path with another start, or with a move put in, left out, doubled, exchanged or changed."""
    start, moves = path
    every = viewwords.every_move(size)
    at = chance.randrange(len(moves) + 1)
    way = chance.randrange(7)
    if way == 6:
        return start, moves + (chance.choice(every),)
    if way == 0:
        return chance.choice(viewwords.starts(size) + NO_STARTS), moves
    if way == 1 or not moves:
        return start, moves[:at] + (chance.choice(every),) + moves[at:]
    at, other = chance.randrange(len(moves)), chance.randrange(len(moves))
    if way == 2:
        return start, moves[:at] + moves[at + 1:]
    if way == 3:
        return start, moves[:at] + moves[at:at + 1] + moves[at:]
    moves = list(moves)
    if way == 4:
        moves[at], moves[other] = moves[other], moves[at]
    else:
        moves[at] = chance.choice(every)
    return start, tuple(moves)


class Paths(Case):
    def test_examples(self):
        self.same(2, lets_path, SIZE, HASTY, TWO)
        self.same((("y",), False, False, (("reads", "turns"), ("makes",))), view_at_end, SIZE, HASTY, TWO)
        self.fails(*paper("move", 1), lets_path, SIZE, (), TWO)

    def test_drawn_paths(self):
        for size, rule, path in viewwords.some_paths(500, 171):
            end = viewwords.walk(size, rule, *path)[-1]
            self.same(len(path[1]), lets_path, size, rule, path)
            self.same(len(path[1]), lets_path, thing=path, rule=rule, size=size)
            self.same(end, view_at_end, size, rule, path)
            self.same(end, view_at_end, path=path, rule=rule, size=size)

    def test_changed_paths(self):
        chance = random.Random(172)
        words = []
        for size, rule, path in viewwords.some_paths(1500, 173):
            thing = changed(size, path, chance)
            rule = chance.choice([rule, rule, (), every_moment(()), machinewords.a_rule(chance)])
            fault = viewwords.path_fault(size, rule, thing)
            if fault is None:
                self.same(len(thing[1]), lets_path, size, rule, thing)
                self.same(viewwords.walk(size, rule, *thing)[-1], view_at_end, size, rule, thing)
            else:
                words.append(fault[0])
                self.fails(*paper(*fault), lets_path, size, rule, thing)
                self.fails(*not_usable("path"), view_at_end, size, rule, thing)
        for word in ("start", "move", "hands"):
            self.assertGreater(words.count(word), 20, word)

    def test_shape(self):
        for thing in [*STRANGE, (), HELD, TWO[1], (HELD,), (*TWO, ()), list(TWO), (HELD, list(TWO[1])), (HELD, None)]:
            if not (isinstance(thing, tuple) and len(thing) == 2 and isinstance(thing[1], tuple)):
                self.fails(*paper("shape", -1), lets_path, SIZE, HASTY, thing)
            self.fails(*not_usable("path"), view_at_end, SIZE, HASTY, thing)
        self.fails(*paper("shape", -1), lets_path, SIZE, HASTY, (None, None))

    def test_starts(self):
        for start in NO_STARTS:
            self.fails(*paper("start", -1), lets_path, SIZE, HASTY, (start, ()))
            self.fails(*paper("start", -1), lets_path, SIZE, HASTY, (start, (None,)))
            self.fails(*not_usable("path"), view_at_end, SIZE, HASTY, (start, ()))
        for size in viewwords.SMALL:
            for start in viewwords.starts(size):
                self.same(0, lets_path, size, full_rule(), (start, ()))
                self.same(start, view_at_end, size, (), (start, ()))

    def test_any_value_as_a_move(self):
        path = (HELD, (("enter", ("guess",)), READ, ("run", 1), ("wrong", 0)))
        self.same(4, lets_path, SIZE, HASTY, path)
        near = [("run", True), ("right", False), ("run", "1"), ["run", 1], ("run", 1, 1), ("run", 10 ** 60 - 1),
                ("take", ("make", "x", ()), 0), ("take", ("make", "x", ("x",))), ("enter", ("make", "x", ("x", "y"))),
                ("enter", ("make", "x", ("y",))), ("enter", ("make", "y", ())), ("enter", ("same", "x", "x")),
                ("enter", ["make", "x", ()]), ("enter", ("make", "z", ("x",))), ("right", 1), ("run", -1), ("leave", 0)]
        for thing in [*STRANGE, (), *near]:
            for k in range(1, 4):
                moves = (*path[1][:k], thing, *path[1][k:])
                self.fails(*paper("move", k), lets_path, SIZE, HASTY, (HELD, moves))
                self.fails(*not_usable("path"), view_at_end, SIZE, HASTY, (HELD, moves))
        # False is no place, though Python takes it for 0.
        self.fails(*paper("move", 3), lets_path, SIZE, HASTY, (HELD, (*path[1][:3], ("wrong", False))))

    def test_hands_in_between(self):
        take = TWO[1][1]
        self.fails(*paper("hands", 1), lets_path, SIZE, HASTY, (HELD, (READ, take, ("run", 0))))
        self.fails(*paper("hands", 1), lets_path, SIZE, HASTY, (HELD, (READ, take, None, take)))
        self.fails(*paper("move", 0), lets_path, SIZE, HASTY, (HELD, (take, READ, take)))
        self.fails(*paper("move", 2), lets_path, SIZE, HASTY, (HELD, (READ, ("run", 0), READ, take, None)))

    def test_places_and_guesses_bound_the_entries(self):
        size = (("x",), 2, 1, False)
        guess = ("enter", ("guess",))
        self.same(1, lets_path, size, (), (HELD, (guess,)))
        self.fails(*paper("move", 1), lets_path, size, (), (HELD, (guess, guess)))
        self.same(3, lets_path, size, (), (HELD, (guess, ("right", 0), guess)))
        self.fails(*paper("move", 3), lets_path, size, (), (HELD, (guess, ("right", 0), guess, READ)))
        self.fails(*paper("move", 1), lets_path, size, (), (HELD, (guess, ("leave",))))
        self.fails(*paper("move", 0), lets_path, (("x",), 2, 0, False), (), (HELD, (guess,)))

    def test_wrong_arguments(self):
        for call, last in ((lets_path, "thing"), (view_at_end, "path")):
            for thing in STRANGE:
                self.fails(*not_usable("size"), call, thing, thing, thing)
                self.fails(*not_usable("size"), call, **{last: None}, rule=None, size=thing)
            for thing in BAD:
                self.fails(*not_usable("rule"), call, SIZE, thing, None)
                self.fails(*not_usable("rule"), call, **{last: TWO}, rule=thing, size=SIZE)


if __name__ == "__main__":
    unittest.main()
