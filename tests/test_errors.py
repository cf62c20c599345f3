"""The interface section "roompace/errors.py"."""

import unittest

from roompace import errors

FAMILIES = {
    "PaceError": (ValueError, {
        "InvalidNumber": "thing", "InvalidName": "name", "InvalidPace": "pace", "InvalidAmount": "amount",
        "InvalidReading": "reading", "InvalidCount": "count", "InvalidDeed": "index", "InvalidText": "line",
    }),
    "StateError": (RuntimeError, {
        "NameTaken": "name", "Outermost": "room", "InsideItself": "room", "DoorBusy": "person",
        "Walking": "person", "NotNextDoor": "room", "NeverReached": "name", "StandsStill": "room",
        "TooMany": "limit", "TooLong": "limit", "Full": "limit", "Apart": "person", "Silent": "names",
        "NeverTogether": "reason", "TooLate": "person",
    }),
    "MissingError": (LookupError, {
        "NoRoom": "room", "NoPerson": "person", "NoBell": "name", "NoAlarm": "name", "NoTimekeeper": "name",
        "NeverShown": "reading",
    }),
}

VALUES = [None, True, 0, 10 ** 399, "yard", "", (1, 2), ("a", "b"), [1, [2]], ()]


def classes():
    for family in FAMILIES:
        for name in FAMILIES[family][1]:
            yield getattr(errors, family), getattr(errors, name), FAMILIES[family][1][name]


class ErrorTest(unittest.TestCase):
    def test_families(self):
        for family in FAMILIES:
            self.assertEqual(getattr(errors, family).__bases__, (FAMILIES[family][0],))

    def test_each_class_is_directly_under_its_family_only(self):
        for family, error, _ in classes():
            self.assertEqual(error.__bases__, (family,))

    def test_there_is_nothing_else(self):
        named = {name for family in FAMILIES for name in FAMILIES[family][1]} | set(FAMILIES)
        self.assertEqual({name for name in dir(errors) if not name.startswith("_")}, named)

    def test_made_by_position_and_by_name(self):
        for _, error, field in classes():
            for value in VALUES:
                self.assertEqual(getattr(error(value), field), value)
                self.assertEqual(getattr(error(**{field: value}), field), value)

    def test_needs_its_field(self):
        for _, error, field in classes():
            with self.assertRaises(TypeError):
                error()
            with self.assertRaises(TypeError):
                error(1, 2)
            with self.assertRaises(TypeError):
                error(**{field + "x": 1})

    def test_defined_in_this_file(self):
        for _, error, _ in classes():
            self.assertEqual(error.__module__, "roompace.errors")

    def test_has_a_message(self):
        for _, error, _ in classes():
            self.assertIn("'hall'", str(error("hall")))


if __name__ == "__main__":
    unittest.main()
