"""The errors: classes, families, fields, by position and by name."""

import unittest

from stayorgo import errors

FAMILIES = {
    "PaperError": {"InvalidPaper": ("word", "at")},
    "WebError": {"NotUsable": ("word", "at"), "NoRoom": ("closed", "barred"), "Endless": ("stuck",)},
    "LiveError": {"InvalidEvent": ("event", "reason"), "NothingToUndo": ("steps",)},
    "TextError": {"InvalidText": ("line", "field"), "InvalidRow": ("row",)},
}


class Errors(unittest.TestCase):
    def test_base_and_families(self):
        self.assertEqual(errors.StayError.__bases__, (ValueError,))
        for family in FAMILIES:
            self.assertEqual(getattr(errors, family).__bases__, (errors.StayError,), family)

    def test_each_error_is_derived_directly_from_its_family(self):
        for family, members in FAMILIES.items():
            for name in members:
                self.assertEqual(getattr(errors, name).__bases__, (getattr(errors, family),), name)

    def test_fields_by_position_and_by_name_are_the_very_objects(self):
        for members in FAMILIES.values():
            for name, fields in members.items():
                given = [[name, field] for field in fields]
                for made in (getattr(errors, name)(*given), getattr(errors, name)(**dict(zip(fields, given)))):
                    self.assertEqual(list(vars(made)), list(fields))
                    for field, held in zip(fields, given):
                        self.assertIs(getattr(made, field), held, (name, field))

    def test_fields_may_be_any_values(self):
        for held in (None, True, -1, "", (), [[]], ("a", [None]), "x" * 4000, 10 ** 59):
            made = errors.InvalidPaper(held, held)
            self.assertIs(made.word, held)
            self.assertIs(made.at, held)

    def test_exactly_the_fields(self):
        for members in FAMILIES.values():
            for name, fields in members.items():
                for many in range(4):
                    if many != len(fields):
                        with self.assertRaises(TypeError):
                            getattr(errors, name)(*([0] * many))
