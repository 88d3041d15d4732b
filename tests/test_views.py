"""[9], [34], [35], [36]: views by form, their steps and moves, and what is behind these."""

import random
import unittest

from roomsback.errors import NotPossible
from roomsback.rulechanges import every_moment, full_rule
from roomsback.views import (
    is_in_two_hands, is_view, moments_at, needs_in, start_views, view_behind, view_moves, view_steps,
)
from tests import machinewords, viewwords
from tests.test_machines import HASTY, SIZE
from tests.test_paths import HELD, READ
from tests.test_rules import BAD, not_usable
from tests.values import STRANGE, Case

# Values that are no view of any size, however near they come.
NO_VIEWS = [
    *STRANGE, (), HELD[:3], (*HELD, ()), list(HELD), (["x"], False, True, ()), (("x",), 0, 1, ()), (("x",), False, 1, ()),
    (("x",), None, True, ()), ("x", False, True, ()), (("x",), False, True, []), (("x", "x"), False, True, ()),
    (("y", "x"), False, True, ()), (("X",), False, True, ()), (("x", 1), False, True, ()), (("ninelette",), False, True, ()),
    (None, False, True, ()), (("x",), False, True, None), (("x",), False, True, "made"), (("x",), False, True, ("made",)),
    (("x",), False, True, (["made"],)), (("x",), False, True, (("made", "made"),)), (("x",), False, True, (None,)),
    (("x",), False, True, (("turns", "made"),)), (("x",), False, True, (("made", "makes"),)),
    (("x",), False, True, (("made", "reads"),)), (("x",), False, True, (("makes", "reads", "turns"),)),
    (("x",), False, True, (("read",),)), (("x",), False, True, (("guess",),)), (("x",), False, True, (("guess", None),)),
    (("x",), False, True, (("guess", ["x"]),)), (("x",), False, True, (("guess", ("y", "x")),)),
    (("x",), False, True, (("guess", ("x", "x")),)), (("x",), False, True, (("guess", "x"),)),
    (("x",), False, True, (("guess", (), ()),)), (("x",), False, True, (("guess", ("1",)),)), (("x",), False, True, ((True,),)),
    (("x",), False, True, (("turns", ()),)), (("x",), False, True, ((("guess", ()),),)),
]
NO_MOVES = [*STRANGE, (), ("leave",), ["enter", ("guess",)], ("enter", ["guess"]), ("take", ("make", "x", ()), 0),
            ("enter", ("make", "x", ("x", "y"))), ("enter", ("make", "z", ())), ("run", 0), ("run", False), ("wrong", True),
            ("take", ("make", "x", ("x",))), ("take", ("guess",)), ("room",), ("rule", ())]


def is_set(thing, words):
    return (thing.__class__ is tuple and all(part.__class__ is str and part in words for part in thing)
            and list(thing) == sorted({*thing}))


def has_form(size, thing):
    """[34]: whether any value is a view of the size, by form."""
    names, places, guesses, _ = size
    if thing.__class__ is not tuple or len(thing) != 4 or thing[3].__class__ is not tuple or not is_set(thing[0], names):
        return False
    words = ("made", "makes", "reads", "turns")
    opened = [entry for entry in thing[3] if repr(entry).startswith("('guess', ")]
    others = [entry for entry in thing[3] if entry not in opened]
    return ([thing[1].__class__, thing[2].__class__] == [bool, bool] and len(thing[3]) <= places and len(opened) <= guesses
            and all(len(entry) == 2 and is_set(entry[1], names) for entry in opened)
            and all(is_set(entry, words) and len({*entry} & {*words[:3]}) < 2 for entry in others))


def steps(size, view):
    """[35]: the steps of all moves with "enter", where a place is left."""
    names, _, guesses, copies = size
    wide = (names, len(view[3]) + 1, guesses, copies)
    return tuple(move[1] for move in viewwords.moves(wide, view) if move[0] == "enter")


def moments(size, view, move):
    """[36]: the moments of the room at a move, by a machine in which it is seen so."""
    found = machinewords.change(size, viewwords.stand_of(size, view), viewwords.on_a_stand(move))[1]
    return tuple(sorted(found.get(viewwords.ROOM, ())))


def needs(size, view):
    return machinewords.needs(size, viewwords.stand_of(size, view), viewwords.ROOM)


def some_views(many, seed):
    """Pairs of a size and a view: by form, and such to which paths lead."""
    chance = random.Random(seed)
    found = []
    for _ in range(many):
        size = chance.choice(viewwords.SMALL + viewwords.WIDE)
        found.append((size, viewwords.a_view(size, chance)))
        start, moves = viewwords.a_path(size, machinewords.a_rule(chance), 15, chance)
        # By another rule, which may give the room back elsewhere.
        rule, view = machinewords.a_rule(chance), start
        for move in moves:
            if not viewwords.is_move(size, view, move):
                break
            view = viewwords.behind(size, rule, view, move)
        found.append((size, view))
    return found


class Forms(Case):
    def test_examples(self):
        view = view_behind(SIZE, HASTY, HELD, READ)
        self.assertEqual([start_views(SIZE)[:2], moments_at(SIZE, HELD, READ), view, needs_in(view)],
                         [(((), True, False, ()), (("x",), False, True, ())), ("turned",),
                          ((), True, True, (("reads", "turns"),)), ("reader",)])
        self.same((("run", 0), ("enter", ("guess",)), ("take", ("make", "x", ())), ("take", ("make", "y", ()))),
                  view_moves, SIZE, view)
        self.same(True, is_in_two_hands, SIZE, view, ("take", ("make", "y", ())))

    def test_start_views(self):
        for size in viewwords.SMALL + viewwords.WIDE + [(("b", "c", "d", "e", "zz"), 9, 0, True)]:
            self.same(tuple(viewwords.starts(size)), start_views, size)
            self.assertEqual(list(start_views(size=size)), sorted(start_views(size)))

    def test_views_by_form(self):
        for size, view in some_views(300, 301):
            self.same(True, is_view, size, view)
            self.same(True, is_view, thing=view, size=size)

    def test_no_view_of_any_size(self):
        for size in [(("x",), 9, 9, True), (("x", "y"), 4, 2, True)]:
            for thing in NO_VIEWS:
                self.same(False, is_view, size, thing)

    def test_bounds_of_the_size(self):
        x = (("x",), 2, 1, False)
        for entries, fits in [((), True), (((), ()), True), (((), (), ()), False), ((("guess", ()), ()), True),
                              ((("guess", ()), ("guess", ())), False), ((("guess", ()),) * 3, False),
                              ((("guess", ("y",)),), False), ((("guess", ("x",)),), True), ((("guess", ("x", "y")),), False),
                              ((("made", "turns"), ("makes",)), True), ((("reads",), ("turns",)), True)]:
            self.same(fits, is_view, x, ((), True, False, entries))
            self.same(fits, is_view, x, (("x",), False, True, entries))
            self.same(False, is_view, x, (("y",), False, True, entries))
        # Without a guess there is no open one; one that is not open has an entry like others.
        self.same(False, is_view, (("x",), 2, 0, False), ((), True, False, (("guess", ()),)))
        self.same(True, is_view, (("x",), 2, 0, False), ((), True, False, ((), ())))
        self.same(True, is_view, (("x",), 2, 0, False), (("x",), True, True, ()))

    def test_parts_changed(self):
        chance = random.Random(302)
        told = []
        for size, view in some_views(500, 303):
            thing = self.changed(view, chance)
            told.append(has_form(size, thing))
            self.same(told[-1], is_view, size, thing)
        self.assertGreater(told.count(False), 500)
        self.assertGreater(told.count(True), 50)

    def changed(self, view, chance):
        """The view with a part, an entry or a word exchanged, left out, doubled, or of another kind."""
        parts = list(view)
        if view[3] and chance.random() < 0.6:
            entries = list(view[3])
            k = chance.randrange(len(entries))
            if chance.random() < 0.5:
                entries[k] = tuple(self.spoilt(list(entries[k]), chance))
            else:
                entries = self.spoilt(entries, chance)
            parts[3] = tuple(entries)
            return tuple(parts)
        return tuple(self.spoilt(parts, chance))

    def spoilt(self, parts, chance):
        k, other = chance.randrange(len(parts) + 1), chance.randrange(len(parts) + 1)
        way = chance.randrange(6)
        if way == 0 or k == len(parts) or other == len(parts):
            return parts[:k] + [chance.choice([*STRANGE, (), ("turns",), "turns", "made"])] + parts[k:]
        if way == 1:
            parts[k], parts[other] = parts[other], parts[k]
        elif way == 2:
            del parts[k]
        elif way == 3:
            parts.insert(k, parts[other])
        elif way == 4:
            parts[k] = chance.choice([*STRANGE, (), ("guess", ()), "turns", "reads"])
        elif parts[k].__class__ is bool:
            parts[k] = int(parts[k])
        else:
            parts[k] = list(parts[k])
        return parts

    def test_needs(self):
        for size, view in some_views(400, 304):
            self.same(needs(size, view), needs_in, view)
            self.same(needs(size, view), needs_in, view=view)
        # A view of any size.
        self.same(("picture",), needs_in, ((), False, False, ((),) * 9 + (("guess", ()), ("guess", ("zzzzzzzz",)))))
        self.same((), needs_in, ((), False, True, (("made", "turns"), ("guess", ()), ("turns",))))

    def test_wrong_arguments(self):
        for thing in STRANGE:
            self.fails(*not_usable("size"), start_views, thing)
            self.fails(*not_usable("size"), is_view, thing, HELD)
            self.fails(*not_usable("size"), is_view, thing=None, size=thing)
        for thing in NO_VIEWS:
            self.fails(*not_usable("view"), needs_in, thing)
            self.fails(*not_usable("view"), needs_in, view=thing)


class Moves(Case):
    def test_steps_and_moves_in_their_order(self):
        full = 0
        for size, view in some_views(350, 311):
            self.same(steps(size, view), view_steps, size, view)
            self.same(steps(size, view), view_steps, view=view, size=size)
            self.same(tuple(viewwords.moves(size, view)), view_moves, size, view)
            self.same(tuple(viewwords.moves(size, view)), view_moves, view=view, size=size)
            full += len(view[3]) == size[1]
        self.assertGreater(full, 50)

    def test_a_full_view(self):
        # Whether a place is left makes no difference to the steps, but an open guess does.
        size = (("x", "y"), 1, 1, True)
        self.same((("make", "x", ()), ("make", "x", ("x",)), ("make", "y", ("x",)), ("same", "x", "y"), ("same", "y", "x")),
                  view_steps, size, (("x",), False, True, (("guess", ("x",)),)))
        self.same((("right", 0), ("wrong", 0)), view_moves, size, (("x",), False, True, (("guess", ("x",)),)))
        self.same((("guess",), ("make", "x", ("y",)), ("make", "y", ()), ("make", "y", ("y",)), ("same", "x", "y"),
                   ("same", "y", "x")), view_steps, size, (("y",), False, True, ((),)))
        self.same((), view_steps, (("x",), 1, 0, True), ((), True, False, ()))

    def test_behind_each_move(self):
        chance = random.Random(312)
        hands = 0
        for size, view in some_views(250, 313):
            rule = chance.choice([full_rule(), every_moment(()), *viewwords.some_rules(4, chance)])
            for move in viewwords.moves(size, view):
                self.same(moments(size, view, move), moments_at, size, view, move)
                self.same(viewwords.behind(size, rule, view, move), view_behind, size, rule, view, move)
                self.same(viewwords.in_hands(size, view, move), is_in_two_hands, size, view, move)
                hands += viewwords.in_hands(size, view, move)
        self.assertGreater(hands, 50)

    def test_by_name(self):
        self.same(("turned",), moments_at, move=READ, view=HELD, size=SIZE)
        self.same(((), True, True, (("reads", "turns"),)), view_behind, move=READ, view=HELD, rule=HASTY, size=SIZE)
        self.same(False, is_in_two_hands, move=READ, view=HELD, size=SIZE)

    def test_no_such_move(self):
        error = NotPossible, {"at": -1}
        for size, view in some_views(60, 314):
            possible = viewwords.moves(size, view)
            for move in [*NO_MOVES, *viewwords.every_move(size)]:
                if repr(move) not in map(repr, possible):
                    self.fails(*error, moments_at, size, view, move)
                    self.fails(*error, view_behind, size, (), view, move)
                    self.fails(*error, is_in_two_hands, size, view, move)
        # True is no place.
        view = ((), False, False, (("makes",), ("makes",)))
        self.same(("made",), moments_at, SIZE, view, ("run", 1))
        self.fails(*error, moments_at, SIZE, view, ("run", True))
        self.fails(*error, view_behind, SIZE, HASTY, view, ("run", False))

    def test_a_room_that_is_taken_by_its_own_name(self):
        # It is turned and taken at once; no other name leads there, so it is in one hand.
        size, view, take = (("a",), 1, 0, False), (("a",), True, True, ()), ("take", ("make", "a", ()))
        self.same(("turned",), moments_at, size, view, take)
        self.same(False, is_in_two_hands, size, view, take)
        self.same((("a",), False, False, (("makes", "turns"),)), view_behind, size, full_rule(), view, take)
        self.same((("a",), True, False, (("makes", "turns"),)), view_behind, size, HASTY, view, take)
        view = (("a", "b"), True, True, ())
        self.same(True, is_in_two_hands, (("a", "b"), 1, 0, False), view, take)

    def test_wrong_arguments(self):
        for thing in STRANGE:
            for call in (view_steps, view_moves):
                self.fails(*not_usable("size"), call, thing, thing)
                self.fails(*not_usable("size"), call, view=None, size=thing)
            for call in (moments_at, is_in_two_hands):
                self.fails(*not_usable("size"), call, thing, thing, thing)
                self.fails(*not_usable("size"), call, move=None, view=None, size=thing)
            self.fails(*not_usable("size"), view_behind, thing, thing, thing, thing)
            self.fails(*not_usable("size"), view_behind, move=None, view=None, rule=None, size=thing)
        for thing in BAD:
            self.fails(*not_usable("rule"), view_behind, SIZE, thing, thing, thing)
            self.fails(*not_usable("rule"), view_behind, move=None, view=None, rule=thing, size=SIZE)
        # The last one is a view, but of another size.
        for thing in [*NO_VIEWS, (("z",), False, True, ()), ((), True, False, ((),) * 3)]:
            for call in (view_steps, view_moves):
                self.fails(*not_usable("view"), call, SIZE, thing)
                self.fails(*not_usable("view"), call, view=thing, size=SIZE)
            for call in (moments_at, is_in_two_hands):
                self.fails(*not_usable("view"), call, SIZE, thing, READ)
                self.fails(*not_usable("view"), call, move=None, view=thing, size=SIZE)
            self.fails(*not_usable("view"), view_behind, SIZE, HASTY, thing, READ)
            self.fails(*not_usable("view"), view_behind, move=None, view=thing, rule=(), size=SIZE)


if __name__ == "__main__":
    unittest.main()
