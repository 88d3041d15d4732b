"""[48], (G6) of [10]: the checker of papers about rooms that are lost."""

import random
import unittest

from roomsback.losing import losing_paper
from roomsback.losschecker import lets_losing
from roomsback.rulechanges import every_moment
from tests import latewords, machinewords, viewwords
from tests.test_likeness import LEFT, ONE
from tests.test_losing import SIZES, losing_rules
from tests.test_machines import HASTY, SIZE
from tests.test_paths import HELD, NO_STARTS, READ, TWO, changed, paper
from tests.test_rules import BAD, not_usable
from tests.test_views import NO_VIEWS, has_form, some_views
from tests.values import STRANGE, Case

ENTER = ("enter", ("make", "a", ()))
PATH = ((("a",), False, True, ()), (ENTER,))
VIEWS = (((), False, True, ()), ((), False, True, (("turns",),)))


def losing_fault(size, rule, thing):
    """[48]: the word and the place at which a pair of a pair and a tuple is no paper, or None."""
    path, views = thing
    fault = viewwords.path_fault(size, rule, path)
    if fault is not None:
        return fault
    end = viewwords.walk(size, rule, *path)[-1]
    if not latewords.is_late(size, end):
        return "need", -1
    for k, view in enumerate(views):
        if not has_form(size, view) or k and not views[k - 1] < view:
            return "view", k
        if view[1]:
            return "free", k
    if end not in views:
        return "end", -1
    for k, view in enumerate(views):
        for m, move in enumerate(viewwords.moves(size, view)):
            if viewwords.behind(size, rule, view, move) not in views:
                return "out", (k, m)
    return None


def late_paths(many, seed):
    """Triples of a size, a rule and a path to a view in which the room is late, if there is one."""
    chance = random.Random(seed)
    found = []
    for _ in range(many):
        size = chance.choice(SIZES)
        rule = chance.choice([(), *losing_rules(4, chance)])
        path = viewwords.a_path(size, rule, 12, chance)
        views = viewwords.walk(size, rule, *path)
        late = [k for k, view in enumerate(views) if latewords.is_late(size, view)]
        if late:
            found.append((size, rule, (path[0], path[1][:chance.choice(late)])))
    return found


class Losing(Case):
    def judged(self, size, rule, thing):
        fault = losing_fault(size, rule, thing)
        if fault is None:
            self.same(len(thing[0][1]), lets_losing, size, rule, thing)
            # (G6)
            self.assertTrue(latewords.Lost(size, rule)(viewwords.walk(size, rule, *thing[0])[-1]))
        else:
            self.fails(*paper(*fault), lets_losing, size, rule, thing)
        return fault and fault[0]

    def test_examples(self):
        self.same(1, lets_losing, ONE, (), losing_paper(ONE, ()))
        self.same(1, lets_losing, thing=(PATH, VIEWS), rule=(), size=ONE)

    def test_what_losing_paper_returns(self):
        chance = random.Random(391)
        some = 0
        for size in SIZES:
            for rule in [(), *losing_rules(8, chance), *viewwords.some_rules(6, chance)]:
                thing = losing_paper(size, rule)
                if thing is not None:
                    some += 1
                    self.assertIs(self.judged(size, rule, thing), None)
        self.assertGreater(some, 60)

    def test_papers_of_somebody_else(self):
        # The path need not be least, and there may be more views.
        accepted = longer = 0
        chance = random.Random(392)
        for size, rule, path in late_paths(300, 393):
            end = viewwords.walk(size, rule, *path)[-1]
            views = latewords.led_on(size, rule, end)
            for _, other in [pair for pair in some_views(2, chance.random()) if has_form(size, pair[1])]:
                views |= latewords.led_on(size, rule, other)
            views = {view for view in views if not view[1]} if chance.random() < 0.7 else views
            word = self.judged(size, rule, (path, tuple(sorted(views))))
            accepted += word is None
            longer += word is None and len(path[1]) > len(losing_paper(size, rule)[0][1])
        self.assertGreater(accepted, 40)
        self.assertGreater(longer, 30)

    def test_changed_papers(self):
        chance = random.Random(394)
        words = []
        for size, rule, path in late_paths(1200, 395):
            end = viewwords.walk(size, rule, *path)[-1]
            views = sorted(view for view in latewords.led_on(size, rule, end) if not view[1] or chance.random() < 0.3)
            if chance.random() < 0.15:
                views.remove(end)
            for _ in range(chance.randrange(2)):
                views = self.spoilt(size, views, chance)
            if chance.random() < 0.25:
                path = changed(size, path, chance)
            judged = chance.choice([rule] * 5 + [(), every_moment(()), machinewords.a_rule(chance)])
            words.append(self.judged(size, judged, (path, tuple(views))))
        for word in ("start", "move", "need", "view", "free", "end", "out", None):
            self.assertGreater(words.count(word), 8, (word, {word: words.count(word) for word in words}))

    def spoilt(self, size, views, chance):
        """The views with one exchanged, left out, doubled, put in another place, or a strange value."""
        views = list(views)
        k, other = chance.randrange(len(views) + 1), chance.randrange(len(views) + 1)
        way = chance.randrange(6)
        if way == 0 or k == len(views) or other == len(views):
            views.append(((), False, True, tuple([("turns",)] * (size[1] + chance.randrange(2)))))
            return sorted(views)
        if way == 1:
            del views[k]
        elif way == 2:
            views.insert(k, views[other])
        elif way == 3:
            views[k], views[other] = views[other], views[k]
        elif way == 4:
            views[k] = chance.choice([*NO_VIEWS, ((), True, True, ()), ((), False, False, ())])
        else:
            return sorted({*views, ((), True, chance.random() < 0.5, ()), ((), False, chance.random() < 0.5, ())})
        return views

    def test_each_word(self):
        thing = (PATH, VIEWS)
        for bad in [*STRANGE, (), list(thing), (PATH, list(VIEWS)), (PATH, None), (*thing, ()), (VIEWS,), (PATH, "")]:
            if not (isinstance(bad, tuple) and len(bad) == 2 and isinstance(bad[1], tuple)):
                self.fails(*paper("shape", -1), lets_losing, ONE, (), bad)
        for bad in [*STRANGE, (), list(PATH), (PATH[0], [ENTER]), (*PATH, ()), PATH[:1]]:
            if not (isinstance(bad, tuple) and len(bad) == 2 and isinstance(bad[1], tuple)):
                self.fails(*paper("shape", -1), lets_losing, ONE, (), (bad, VIEWS))
        for bad in NO_STARTS:
            self.fails(*paper("start", -1), lets_losing, ONE, (), ((bad, (None,)), (None,)))
        for bad in STRANGE:
            self.fails(*paper("move", 1), lets_losing, ONE, (), ((PATH[0], (ENTER, bad)), (None,)))
        self.fails(*paper("hands", 1), lets_losing, SIZE, HASTY, ((HELD, (*TWO[1], READ)), VIEWS))
        # Free at the start; named; behind a take in two hands; read.
        for path in [(((), True, False, ()), ()), (HELD, ()), TWO, (HELD, (READ,))]:
            self.fails(*paper("need", -1), lets_losing, SIZE, HASTY, (path, (None,)))
        self.fails(*paper("need", -1), lets_losing, ONE, (("turned", ()),), thing)
        for bad in [*NO_VIEWS, ((), False, True, ((), ())), (("b",), False, True, ())]:
            self.fails(*paper("view", 0), lets_losing, ONE, (), (PATH, (bad, *VIEWS)))
            self.fails(*paper("view", 1), lets_losing, ONE, (), (PATH, (VIEWS[0], bad, VIEWS[0])))
        self.fails(*paper("view", 1), lets_losing, ONE, (), (PATH, VIEWS[::-1]))
        self.fails(*paper("view", 2), lets_losing, ONE, (), (PATH, (*VIEWS, VIEWS[1])))
        free = ((), True, True, ())
        self.fails(*paper("free", 2), lets_losing, ONE, (), (PATH, (*VIEWS, free)))
        # Both are looked for ahead of the next element.
        self.fails(*paper("free", 2), lets_losing, ONE, (), (PATH, (*VIEWS, free, None)))
        self.fails(*paper("view", 1), lets_losing, ONE, (), (PATH, (VIEWS[0], None, free)))
        for views in [(), VIEWS[:1]]:
            self.fails(*paper("end", -1), lets_losing, ONE, (), (PATH, views))
        self.fails(*paper("out", (0, 0)), lets_losing, ONE, (), (PATH, VIEWS[1:]))
        self.fails(*paper("out", (1, 0)), lets_losing, ONE, LEFT, (PATH, VIEWS))
        self.fails(*paper("out", (2, 1)), lets_losing, ONE, (), (PATH, (*VIEWS, (("a",), False, True, ()))))

    def test_first_of_several(self):
        # Another view without a need, from which moves lead out, too.
        more = (((), False, False, (("turns",),)), *VIEWS)
        self.fails(*paper("out", (0, 0)), lets_losing, ONE, (), (PATH, more))
        self.fails(*paper("end", -1), lets_losing, ONE, (), (PATH, more[:2]))
        size = (("a",), 2, 1, False)
        path = (PATH[0], (ENTER, ("enter", ("guess",))))
        view = ((), False, True, (("turns",), ("guess", ())))
        # Leaving comes ahead of right and wrong.
        self.fails(*paper("out", (0, 0)), lets_losing, size, (), (path, (view,)))
        self.fails(*paper("out", (0, 0)), lets_losing, size, (), (path, (((), False, True, (("guess", ()),)), view)))

    def test_wrong_arguments(self):
        for thing in STRANGE:
            self.fails(*not_usable("size"), lets_losing, thing, thing, thing)
            self.fails(*not_usable("size"), lets_losing, thing=None, rule=None, size=thing)
        for thing in BAD:
            self.fails(*not_usable("rule"), lets_losing, SIZE, thing, None)
            self.fails(*not_usable("rule"), lets_losing, thing=None, rule=thing, size=SIZE)


if __name__ == "__main__":
    unittest.main()
