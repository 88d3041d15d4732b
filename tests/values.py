"""Values of any kind, and a case that counts what a call refuses."""

import unittest

DEEP = ()
for _ in range(29):
    DEEP = (DEEP,)

# Values that are none of the kinds of the document, however near they come.
STRANGE = [
    None, True, False, -1, -2, 10 ** 60 - 1, -(10 ** 60 - 1), "", " ", "A", "Left", "left ", "a\nb", "nineletter",
    [], [[]], [1, True], ["left", []], (None,), (True,), (1, True), (0, False), ("",), ([],), (("left",),), DEEP,
    ("left", []), ["left", ()], ("left", ("reader", "name")), ("left", ("name", "name")), ("left", ("names",)),
    ("left", (), ()), ("", ()), (True, ()), (("left", ()), ("gone", ())), (("left", ()), ("left", ())),
    [("left", ())], (["left", ()],), (("left", ["name"]),), ("name", "maker"), ("name", "name"), ["name"],
    ((("a",), 1, 0, False),), [("a",), 1, 0, False], (["a"], 1, 0, False), ((), 1, 0, False),
    (("a",), 0, 0, False), (("a",), True, 0, False), (("a",), 1, False, False), (("a",), 1, 0, 0),
    (("a",), 1, 0, None), (("a",), 1, -1, False), (("b", "a"), 1, 0, False), (("a", "a"), 1, 0, False),
    (("a",), 1, 0), (("a",), 1, 0, False, False), (("ninelette",), 1, 0, False), (("A",), 1, 0, False),
    ("make",), ("guess", "guess"), ["guess"], ("same", "a", "a"), ("same", "a"), ("make", "a"),
    ("make", "a", ("b", "a")), ("make", "a", ["a"]), ("make", "a", ("a", "a")), ("make", "", ()), ("made", "a", ()),
    ("make", "ninelette", ()), ("make", "a", None), ("make", "a", "a"), ("make", "a", (1,)), (("guess",),),
    ("copy", "a", "b"), ("same", "A", "b"), ("same", "a", "ninelette"), ("same", "a", ("b",)), ("guess", "a", "b"),
]


class Case(unittest.TestCase):
    """A test case for functions that refuse arguments, and change none."""

    def fails(self, error, fields, call, *args, **more):
        """The call raises this very error with these fields, and changes nothing."""
        before = repr((args, more))
        with self.assertRaises(error) as caught:
            call(*args, **more)
        self.assertIs(caught.exception.__class__, error)
        # True and 1 are equal for Python, and unlike in the document.
        self.assertEqual(repr(vars(caught.exception)), repr(fields))
        self.assertEqual(repr((args, more)), before)

    def same(self, expected, call, *args, **more):
        """The call returns just this, of the same kinds, and changes nothing."""
        before = repr((args, more))
        self.assertEqual(repr(call(*args, **more)), repr(expected))
        self.assertEqual(repr((args, more)), before)
