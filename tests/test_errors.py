"""[75]: the errors, their families and their fields."""

import unittest

from roomsback import errors

FAMILIES = {
    "PaperError": {"InvalidPaper": ("word", "at")},
    "UseError": {"NotUsable": ("word", "at"), "NotPossible": ("at",)},
    "BenchError": {"InvalidEvent": ("event", "reason"), "NothingToUndo": ("steps",), "Broken": ("done",)},
    "TextError": {"InvalidText": ("line", "column"), "InvalidRow": ("row",)},
}


class Errors(unittest.TestCase):
    def test_families(self):
        self.assertEqual(errors.RoomError.__bases__, (ValueError,))
        for family, kinds in FAMILIES.items():
            self.assertEqual(getattr(errors, family).__bases__, (errors.RoomError,))
            for name in kinds:
                self.assertEqual(getattr(errors, name).__bases__, (getattr(errors, family),))

    def test_fields_are_the_very_objects(self):
        for kinds in FAMILIES.values():
            for name, fields in kinds.items():
                values = [[k, (None, True)] for k in range(len(fields))]
                kind = getattr(errors, name)
                by_name = dict(zip(fields, values))
                backwards = dict(reversed(list(by_name.items())))
                for error in (kind(*values), kind(**by_name), kind(**backwards)):
                    self.assertEqual(list(vars(error)), list(fields))
                    for field, value in by_name.items():
                        self.assertIs(getattr(error, field), value)

    def test_exactly_these_fields(self):
        for kinds in FAMILIES.values():
            for name, fields in kinds.items():
                kind = getattr(errors, name)
                with self.assertRaises(TypeError):
                    kind(*range(len(fields) - 1))
                with self.assertRaises(TypeError):
                    kind(*range(len(fields) + 1))
                with self.assertRaises(TypeError):
                    kind(**dict.fromkeys(fields), other=1)

    def test_nothing_else_is_an_error(self):
        names = [name for name, value in vars(errors).items() if isinstance(value, type)]
        listed = ["RoomError", *FAMILIES, *[name for kinds in FAMILIES.values() for name in kinds]]
        self.assertEqual(sorted(names), sorted(listed))
