"""The errors of the interface."""

import unittest

from groupdeeds import errors

PLAIN = ("BadSize", "BadGrouping", "BadCount", "BadStep", "BadDrawing", "NoRow", "NoTwo", "BadPrices", "BadWeights",
         "BadPerson", "BadLikings", "BadNumber", "BadOrder", "BadTies", "NotText", "NothingToUndo", "BadWord",
         "BadCrowd")
INDEXED = ("BadRow", "BadSights", "BadRule", "BadGroupings", "BadStops", "BadTold")


class Errors(unittest.TestCase):
    def test_base(self):
        self.assertEqual(errors.GroupError.__bases__, (ValueError,))

    def test_direct_subclasses(self):
        for name in PLAIN + INDEXED + ("InvalidText", "TooMany"):
            self.assertEqual(getattr(errors, name).__bases__, (errors.GroupError,), name)

    def test_nothing_else(self):
        kinds = [name for name in vars(errors) if isinstance(vars(errors)[name], type)]
        self.assertEqual(sorted(kinds), sorted(PLAIN + INDEXED + ("InvalidText", "TooMany", "GroupError")))

    def test_without_fields(self):
        for name in PLAIN:
            with self.assertRaises(errors.GroupError):
                raise getattr(errors, name)("why")
            self.assertEqual(vars(getattr(errors, name)()), {})

    def test_fields(self):
        for name in INDEXED:
            for index in (None, 0, 3):
                self.assertEqual(vars(getattr(errors, name)(index)), {"index": index})
        self.assertEqual(vars(errors.InvalidText(3)), {"place": 3})
        self.assertEqual(vars(errors.TooMany(4)), {"most": 4})


if __name__ == "__main__":
    unittest.main()
