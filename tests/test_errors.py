"""Point 5 and the interface of fewcarry/exact/errors.py."""

import unittest

from fewcarry.exact import errors

FIELDS = {
    "ZeroBottom": [],
    "OutOfBounds": ["value"],
    "BadNumber": ["given"],
    "Crossed": ["low", "high"],
    "Apart": [],
    "BadShape": [],
    "BadPlace": ["place"],
    "NoInverse": [],
    "NotSymmetric": ["row", "column"],
    "BelowZero": ["direction"],
    "NotAbove": [],
    "BadTerm": ["place"],
    "NotWhole": [],
    "BadLabel": ["label"],
    "TwinLabel": ["label"],
    "NoLabel": ["label"],
    "BadWeight": ["label"],
    "TooMany": ["most"],
    "BadFactor": ["factor"],
    "NoEnergy": ["label"],
    "OutOfReach": ["push"],
    "BadBook": ["line"],
    "BadQ": ["q"],
    "OutOfBars": ["side"],
    "NoStep": [],
    "NoChoice": [],
    "TooHeavy": ["work"],
    "NotCarried": ["side", "direction"],
    "BadCertificate": ["line"],
    "BadLink": [],
    "Unfit": [],
    "BadNode": ["node"],
    "NoNode": ["node"],
    "TwinNode": ["node"],
    "Loop": ["label"],
    "Uneven": ["nodes"],
    "Parted": ["first", "second"],
    "BadNet": ["line"],
    "Dependent": ["column"],
    "Loose": ["places"],
    "Refused": ["at"],
    "NoName": ["name"],
    "TwinName": ["name"],
    "WrongKind": ["name"],
    "BadDeed": ["deed"],
    "BadQuestion": ["place"],
    "NothingToUndo": [],
    "NothingToRedo": [],
}
TUPLES = ("direction", "push", "nodes", "places")


class Errors(unittest.TestCase):
    def test_base_class(self):
        self.assertEqual(errors.CarryError.__bases__, (ValueError,))

    def test_all_derive_directly_from_the_base_class(self):
        for name in FIELDS:
            with self.subTest(name):
                self.assertEqual(getattr(errors, name).__bases__, (errors.CarryError,))
                self.assertEqual(getattr(errors, name).__module__, "fewcarry.exact.errors")

    def test_arguments_in_order_become_fields(self):
        for name, fields in FIELDS.items():
            with self.subTest(name):
                values = [[k, k + 1] if field in TUPLES else k for k, field in enumerate(fields)]
                error = getattr(errors, name)(*values)
                for field, value in zip(fields, values):
                    wanted = tuple(value) if field in TUPLES else value
                    self.assertEqual(getattr(error, field), wanted)
                    self.assertIs(type(getattr(error, field)), type(wanted))

    def test_arguments_by_name(self):
        for name, fields in FIELDS.items():
            with self.subTest(name):
                error = getattr(errors, name)(**{field: (1, 2) for field in fields})
                self.assertEqual([getattr(error, field) for field in fields], [(1, 2)] * len(fields))

    def test_lists_are_copied(self):
        for name, fields in FIELDS.items():
            for field in fields:
                if field in TUPLES or name == "BadPlace":
                    with self.subTest(name):
                        values = {other: "low" for other in fields}
                        values[field] = [1, 2]
                        error = getattr(errors, name)(**values)
                        values[field].append(3)
                        self.assertEqual(getattr(error, field), (1, 2))

    def test_place_is_a_number_or_a_pair(self):
        self.assertEqual(errors.BadPlace(3).place, 3)
        self.assertEqual(errors.BadPlace((3, -1)).place, (3, -1))
        self.assertEqual(errors.BadPlace([3, -1]).place, (3, -1))

    def test_caught_as_base_class_and_as_value_error(self):
        for base in (errors.CarryError, ValueError):
            with self.assertRaises(base):
                raise errors.NoLabel("a")


if __name__ == "__main__":
    unittest.main()
