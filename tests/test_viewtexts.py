"""[45]: the lines of views and of paths."""

import random
import unittest

from roomsback.views import view_moves
from roomsback.viewtexts import path_rows, view_text
from tests import viewwords
from tests.test_machines import TAKE
from tests.test_movereadings import line_of
from tests.test_paths import HELD, READ, TWO
from tests.test_rules import not_usable
from tests.test_views import NO_VIEWS, some_views
from tests.values import STRANGE, Case

NO_MOVES = [*STRANGE, (), TAKE, ["leave"], ("leave", 0), ("leave", ()), ("run",), ("run", True), ("run", -1), ("run", "0"),
            ("run", 0, 0), ("take", ("make", "x", ("x",))), ("take", ("guess",)), ("take", ("same", "x", "y")), ("take",),
            ("take", ["make", "x", ()]), ("enter", ("make", "x", ("x", "y"))), ("enter", None), ("enter", ("same", "x", "x")),
            ("enter", ("make", "X", ())), ("made", 0), ("made", ("make", "x", ())), ("leave", ("guess",)), ("run", ("make", "x", ())),
            ("enter", ("guess",), 0), ("guess",), ("room",), ("rule", ())]


def words(names):
    return ",".join(names) or "-"


def line_of_view(view):
    """[45]: the line of a view."""
    names, is_free, is_filled, entries = view
    text = f"{words(names)} {'free' if is_free else 'held'} {'filled' if is_filled else 'empty'}"
    for entry in entries:
        if len(entry) == 2 and entry[0] == "guess":
            text += " | guess " + words(entry[1])
        else:
            text += " | " + words(entry)
    return text


def line_of_move(move):
    """[45]: the line of a move of views, by the line of a move of machines."""
    if move[0] == "take":
        return line_of((*move, 0))[:-len(" in 0")]
    if move[0] == "enter" and move[1][0] == "make":
        return "enter" + line_of(("take", move[1], 0))[len("take"):-len(" in 0")]
    return line_of(move)


class Lines(Case):
    def test_examples(self):
        self.same("- free filled | reads,turns", view_text, ((), True, True, (("reads", "turns"),)))
        self.assertEqual([path_rows(TWO), view_text((("x", "y"), False, False, (("makes",), ("guess", ()), ())))],
                         [["x held filled", "enter make x of x", "take make y"], "x,y held empty | makes | guess - | -"])

    def test_views(self):
        for size, view in some_views(400, 381):
            self.same(line_of_view(view), view_text, view)
            self.same(line_of_view(view), view_text, view=view)

    def test_each_word(self):
        for view, text in [
                (((), True, False, ()), "- free empty"), (((), False, True, ()), "- held filled"),
                ((("a", "bb", "zzzzzzzz"), True, True, ((), ())), "a,bb,zzzzzzzz free filled | - | -"),
                (((), False, False, (("guess", ("a", "b")), ("made", "turns"))), "- held empty | guess a,b | made,turns"),
                # Names that are words of the texts.
                ((("free", "guess", "held"), False, True, (("guess", ("filled", "reads")), ("reads",))),
                 "free,guess,held held filled | guess filled,reads | reads")]:
            self.same(text, view_text, view)

    def test_paths(self):
        for size, rule, path in viewwords.some_paths(300, 382):
            rows = [line_of_view(path[0]), *map(line_of_move, path[1])]
            self.same(rows, path_rows, path)
            self.same(rows, path_rows, path=path)

    def test_by_form(self):
        # Any view may stand first, and the moves need not be possible, nor of one size.
        chance = random.Random(383)
        for size, view in some_views(60, 384):
            every = viewwords.every_move(chance.choice(viewwords.SMALL))
            moves = tuple(chance.choice(every) for _ in range(6)) + view_moves(size, view)
            self.same([line_of_view(view), *map(line_of_move, moves)], path_rows, (view, moves))
        moves = (("wrong", 10 ** 60 - 1), ("enter", ("same", "of", "make")), ("take", ("make", "take", ())),
                 ("enter", ("make", "of", ("make",))), ("enter", ("make", "of", ())), ("enter", ("guess",)), ("leave",))
        self.same(["x held filled", "wrong " + "9" * 60, "enter same of make", "take make take", "enter make of of make",
                   "enter make of", "enter guess", "leave"], path_rows, (HELD, moves))
        self.same(["x held filled"], path_rows, (HELD, ()))

    def test_a_list_of_its_own(self):
        path_rows(TWO).append("")
        self.assertEqual(len(path_rows(TWO)), 3)

    def test_wrong_arguments(self):
        for thing in NO_VIEWS:
            self.fails(*not_usable("view"), view_text, thing)
            self.fails(*not_usable("view"), view_text, view=thing)
            self.fails(*not_usable("path"), path_rows, (thing, ()))
            self.fails(*not_usable("path"), path_rows, (thing, TWO[1]))
        for thing in NO_MOVES:
            self.fails(*not_usable("path"), path_rows, (HELD, (thing,)))
            self.fails(*not_usable("path"), path_rows, path=(HELD, (READ, thing, ("leave",))))
        for thing in [*STRANGE, (), HELD, TWO[1], list(TWO), (HELD, list(TWO[1])), (*TWO, ()), TWO[:1], (HELD, READ), (TWO,)]:
            self.fails(*not_usable("path"), path_rows, thing)
            self.fails(*not_usable("path"), path_rows, path=thing)


if __name__ == "__main__":
    unittest.main()
