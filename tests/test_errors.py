"""[11] and [4]: the error classes."""

import unittest

from packsworn import errors
from tests.kinds import values

FIELDS = {
    "Wrong": ["place"], "NoVersion": [], "NoRange": ["place"], "NoText": ["line"],
    "Doubled": ["name", "version"], "NoPack": ["name", "version"], "TooMany": ["most"],
    "NotThere": ["name"], "PowerCut": [], "NoGeneration": ["number"], "NoCommand": [],
}


class TestErrors(unittest.TestCase):
    def test_tree(self):
        self.assertEqual(errors.PackError.__bases__, (ValueError,))
        for name in FIELDS:
            self.assertEqual(getattr(errors, name).__bases__, (errors.PackError,), name)

    def test_no_other_classes(self):
        found = [name for name in vars(errors) if isinstance(getattr(errors, name), type)]
        self.assertEqual(sorted(found), sorted(list(FIELDS) + ["PackError"]))

    def test_fields_are_the_objects_themselves(self):
        for name, fields in FIELDS.items():
            for value in values():
                given = [value] + [[name]] * (len(fields) - 1) if fields else []
                error = getattr(errors, name)(*given)
                self.assertEqual(len(vars(error)), len(fields))
                for field, part in zip(fields, given):
                    self.assertIs(getattr(error, field), part)

    def test_raised_and_caught(self):
        with self.assertRaises(ValueError) as caught:
            raise errors.Doubled("a", [1])
        self.assertEqual((caught.exception.name, caught.exception.version), ("a", [1]))

    def test_without_arguments(self):
        for name in ("PackError", "NoVersion", "PowerCut", "NoCommand"):
            self.assertIsInstance(getattr(errors, name)(), errors.PackError)


if __name__ == "__main__":
    unittest.main()
