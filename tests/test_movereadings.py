"""[30]: reading moves and runs."""

import itertools
import random
import unittest

from roomsback.errors import InvalidText
from roomsback.machines import is_move
from roomsback.movereadings import move_read, run_read
from roomsback.ruletexts import step_text
from tests import machinewords
from tests.lines import column_in, spoiled
from tests.test_rules import not_usable
from tests.values import STRANGE, Case

SIZE = (("x", "y"), 2, 1, True)
SIZES = [SIZE, (("a",), 1, 0, True), (("a", "ab", "b"), 1, 2, False), (("in", "make", "of"), 1, 1, True),
         (("guess", "i", "inn"), 1, 0, True)]
FAST = (("take", ("make", "x", ("x",)), 2), ("take", ("make", "y", ()), 0), ("run", 1), ("run", 0), ("leave",))
NO_TEXTS = [thing for thing in STRANGE if not isinstance(thing, str)]
NUMBERS = range(200)


def line_of(move):
    """The line of a move, as [29] writes it."""
    words = [step_text(part) if isinstance(part, tuple) else str(part) for part in move]
    return " ".join([*words[:2], "in", *words[2:]] if move[0] == "take" else words)


def moves_of(size, numbers):
    """All moves of a size by form, with these numbers."""
    found = [("leave",)] + [(word, k) for word in ("run", "right", "wrong") for k in numbers]
    for step in machinewords.steps(size):
        found += [("take", step, room) for room in numbers] if step[0] == "make" else [("enter", step)]
    return found


def at(line, column):
    return InvalidText, {"line": line, "column": column}


class MoveReading(Case):
    def test_examples(self):
        self.same(("enter", ("same", "x", "y")), move_read, SIZE, "enter same x y")
        self.same(FAST, run_read, SIZE, "\n".join(map(line_of, FAST)))
        self.same(FAST[0], move_read, SIZE, "take make x of x in 2")
        self.fails(*at(0, 15), move_read, SIZE, "take make x of z in 2")

    def test_written_moves(self):
        for size in SIZES:
            for move in moves_of(size, (0, 1, 10, 305, 10 ** 60 - 1)):
                self.assertTrue(is_move(size, move))
                self.same(move, move_read, text=line_of(move), size=size)

    def test_columns(self):
        chance = random.Random(61)
        for size in SIZES:
            lines = sorted(map(line_of, moves_of(size, NUMBERS)))
            known = set(lines)
            others = list(map(line_of, moves_of((("a", "in", "of", "x"), 1, 1, True), (0, 3, 10))))
            for _ in range(1500):
                text = spoiled(chance.choice(chance.choice([lines, others])), chance)
                digits = "".join(sign if sign in "0123456789" else " " for sign in text).split()
                if any(len(word) > 2 for word in digits):
                    continue
                if text in known:
                    self.assertEqual(line_of(move_read(size, text)), text)
                else:
                    self.fails(*at(0, column_in(lines, text)), move_read, size, text)

    def test_edges(self):
        for text, column in [
                ("", 0), ("\n", 0), ("run", 3), ("run ", 4), ("run 00", 5), ("run 01", 5), ("run 0 ", 5), ("run -1", 4),
                ("run x", 4), ("r", 1), ("ri", 2), ("ru", 2), ("rx", 1), ("leave ", 5), ("leave\n", 5), ("enter", 5),
                ("enter make x", 6), ("take guess in 1", 5), ("take make x", 11), ("take make x in", 14),
                ("take make x in ", 15), ("take make x in 1 ", 16), ("take make x of in 1", 15),
                ("take make x of y x in 1", 17), ("take make x of x x in 1", 17), ("take make x i 1", 13),
                ("wrong " + "7" * 61, 66), ("take make x in " + "7" * 61, 75), ("enter same x x", 13),
                ("enter guess 1", 11)]:
            self.fails(*at(0, column), move_read, SIZE, text)
        # By form: a guess may be named by its place where a size has none.
        self.same(("right", 3), move_read, (("x",), 1, 0, False), "right 3")

    def test_no_enter_where_nothing_enters_so(self):
        size = (("x",), 1, 0, True)
        for text in ("enter guess", "enter same x x", "enter", "e"):
            self.fails(*at(0, 0), move_read, size, text)
        self.fails(*at(0, 6), move_read, (("x", "y"), 1, 0, True), "enter guess")
        self.fails(*at(0, 6), move_read, (("x", "y"), 1, 1, False), "enter same x y")

    def test_wrong_arguments(self):
        for call in (move_read, run_read):
            for thing in STRANGE:
                self.fails(*not_usable("size"), call, thing, None)
                self.fails(*not_usable("size"), call, text=None, size=thing)
            for thing in NO_TEXTS:
                self.fails(*not_usable("text"), call, SIZE, thing)


class RunReading(Case):
    def test_lines(self):
        self.same((), run_read, SIZE, "")
        self.fails(*at(0, 0), run_read, SIZE, "\n")
        self.fails(*at(1, 0), run_read, SIZE, "leave\n")
        self.fails(*at(1, 0), run_read, SIZE, "leave\n\nleave")
        self.fails(*at(2, 5), run_read, SIZE, "leave\nrun 3\nleaves\nrun x")
        # The same line may stand again, in any order.
        self.same((("run", 1), ("leave",), ("leave",), ("run", 0)), run_read, SIZE, "run 1\nleave\nleave\nrun 0")

    def test_columns(self):
        chance = random.Random(62)
        for size in SIZES:
            moves = moves_of(size, range(12))
            lines = sorted(map(line_of, moves_of(size, NUMBERS)))
            for _ in range(150):
                run = tuple(chance.choice(moves) for _ in range(chance.randrange(8)))
                self.same(run, run_read, size, "\n".join(map(line_of, run)))
                text = spoiled("\n".join(map(line_of, run)), chance)
                for k, line in enumerate(text.split("\n") if text else []):
                    if line not in lines:
                        self.fails(*at(k, column_in(lines, line)), run_read, size, text)
                        break
                else:
                    self.assertEqual("\n".join(map(line_of, run_read(size, text))), text)

    def test_names_that_are_words(self):
        names = ("in", "make", "of")
        for name, many in itertools.product(names, range(4)):
            for sources in itertools.combinations(names, many):
                move = ("take", ("make", name, sources), 12)
                self.same(move, move_read, (names, 1, 0, False), line_of(move))


if __name__ == "__main__":
    unittest.main()
