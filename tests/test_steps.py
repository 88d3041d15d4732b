"""[14]: the steps of a size, and what they read and write."""

import itertools
import unittest

from roomsback.errors import NotUsable
from roomsback.kinds import is_step
from roomsback.steps import sources_of, steps_of, written_by
from tests import machinewords
from tests.values import STRANGE, Case


class Steps(Case):
    def test_examples(self):
        size = (("a", "b"), 2, 1, True)
        self.assertEqual(list(steps_of(size))[:5], [
            ("guess",), ("make", "a", ()), ("make", "a", ("a",)), ("make", "a", ("b",)), ("make", "a", ("a", "b"))])
        self.assertEqual(list(steps_of((("a", "b"), 2, 0, True)))[8:], [("same", "a", "b"), ("same", "b", "a")])
        self.same(("a", "b"), sources_of, ("make", "c", ("a", "b")))
        self.same(None, written_by, ("guess",))

    def test_all_steps_in_order(self):
        for many, guesses, copies in itertools.product((1, 2, 3, 5), (0, 1, 2), (False, True)):
            size = (("a", "ab", "b", "c", "guess")[:many], 1, guesses, copies)
            found = list(steps_of(size=size))
            self.assertEqual(found, machinewords.steps(size))
            for step in found:
                self.assertTrue(is_step(size, step))

    def test_one_by_one(self):
        names = tuple(sorted("".join(signs) for signs in itertools.product("abcdefgh", repeat=2)))
        for step, expected in zip(steps_of((names, 1, 0, True)), itertools.chain([()], ((name,) for name in names))):
            self.assertEqual(step, ("make", "aa", expected))

    def test_sources_and_names(self):
        for step in machinewords.steps((("a", "b", "c"), 1, 1, True)):
            self.same(step[2] if step[0] == "make" else (), sources_of, step)
            self.same(step[1] if step != ("guess",) else None, written_by, step=step)

    def test_wrong_arguments(self):
        for thing in STRANGE:
            # The error comes when the first step is asked for.
            steps = steps_of(thing)
            self.fails(NotUsable, {"word": "size", "at": -1}, next, steps)
            self.fails(NotUsable, {"word": "step", "at": -1}, sources_of, thing)
            self.fails(NotUsable, {"word": "step", "at": -1}, written_by, step=thing)


if __name__ == "__main__":
    unittest.main()
