"""The errors: their bases, and what they keep."""

import inspect
import unittest

from reportalike import errors

LOOKUP = {"NoSheet": ("sheet",), "NoStep": ("name",), "NoSpot": ("spot",), "NoName": ("name",), "NoNumber": ("number",),
          "NothingDone": ()}
VALUE = {"Twice": ("name",), "NotSound": (), "NoOrder": (), "NoPaper": (), "BadText": (), "BadLine": ("number",)}


class Errors(unittest.TestCase):
    def check(self, table, base):
        for name, values in table.items():
            with self.subTest(name=name):
                kind = getattr(errors, name)
                self.assertEqual(kind.__bases__, (base,))
                self.assertEqual(kind.__module__, "reportalike.errors")
                worths = [(0, name)[:1 + len(values)] for _ in values]
                error = kind(*worths)
                self.assertEqual(vars(error), dict(zip(values, worths)))
                self.assertEqual(vars(kind(**dict(zip(values, worths)))), dict(zip(values, worths)))

    def test_lookup_errors(self):
        self.check(LOOKUP, LookupError)

    def test_value_errors(self):
        self.check(VALUE, ValueError)

    def test_a_value_is_asked_for(self):
        for name in ("NoSheet", "NoStep", "NoSpot", "NoName", "NoNumber", "Twice", "BadLine"):
            with self.assertRaises(TypeError):
                getattr(errors, name)()

    def test_there_are_no_others(self):
        own = [name for name, kind in vars(errors).items() if inspect.isclass(kind)]
        self.assertEqual(sorted(own), sorted([*LOOKUP, *VALUE]))
