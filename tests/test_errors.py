import unittest

from fademill import errors

PLAIN = ("BadInputs", "BadNumber", "BadCell", "BadLives", "BadOrder", "NoWay", "NotCarried", "BadString")


class Errors(unittest.TestCase):
    def test_all_stand_under_mill_error(self):
        self.assertTrue(issubclass(errors.MillError, ValueError))
        for name in PLAIN + ("BadMachine", "BadProgram", "BadLine", "TooMany"):
            self.assertTrue(issubclass(getattr(errors, name), errors.MillError), name)
            self.assertEqual(getattr(errors, name).__module__, "fademill.errors")

    def test_none_stands_under_another_but_mill_error(self):
        for name in PLAIN + ("BadMachine", "BadProgram", "BadLine", "TooMany"):
            self.assertEqual(getattr(errors, name).__bases__, (errors.MillError,), name)

    def test_those_without_fields(self):
        for name in PLAIN:
            self.assertEqual(vars(getattr(errors, name)()), {}, name)

    def test_fields(self):
        self.assertEqual(vars(errors.BadMachine("rows")), {"part": "rows"})
        self.assertEqual(vars(errors.BadProgram(3)), {"index": 3})
        self.assertEqual(vars(errors.BadProgram(None)), {"index": None})
        self.assertEqual(vars(errors.BadLine(2, 1)), {"line": 2, "place": 1})
        self.assertEqual(vars(errors.TooMany(20000)), {"most": 20000})
        self.assertEqual(errors.BadLine(line=4, place=5).place, 5)
