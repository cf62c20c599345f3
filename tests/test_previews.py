"""Points [12] to [14] and the section "roompace/previews.py"."""

import random
import unittest

from roompace import previews
from roompace.errors import InvalidAmount, NeverReached, NoTimekeeper, TooLong, TooMany
from roompace.house import House
from roompace.numbers import number
from roompace.previews import events
from tests.helpers import NO_NAMES, NO_NUMBERS, all_with_past, check_error, small_house
from tests.model import random_house, random_number


def busy_house():
    """The small house after a wait, with people who walk."""
    house = small_house()
    house.wait((2, 1))
    house.walk("ann", "hall")
    house.walk("bob", "nook")
    house.viewpoint = "nook"
    return house


class EventsTest(unittest.TestCase):
    def test_what_a_wait_would_return(self):
        house = busy_house()
        # The nook shows 5/3 and has the rate 5/6; Bob arrives after 1/2 moment, Ann after 3.
        expected = [
            ((25, 12), "arrival", "bob", "nook"), ((25, 6), "arrival", "ann", "hall"), ((35, 6), "stroke", "gong", "hall"),
        ]
        self.assertEqual(list(events(house, (25, 6))), expected)
        self.assertEqual(list(events(house=house, amount=(25, 6), by=None)), expected)
        self.assertEqual(list(events(house, (5, 1), by="yard")), expected)
        self.assertEqual(list(events(house, (49, 10), by="yard")), expected[:2])
        self.assertEqual(list(events(house, (5, 2), by="ann")), expected[:1])

    def test_asked_twice_and_nothing_is_changed(self):
        house = busy_house()
        before = all_with_past(house)
        first = list(events(house, (25, 6)))
        self.assertEqual(list(events(house, (25, 6))), first)
        self.assertEqual(all_with_past(house), before)
        self.assertEqual(house.wait((25, 6)), tuple(first))

    def test_partly_asked(self):
        house = busy_house()
        before = all_with_past(house)
        coming = events(house, (25, 6))
        self.assertEqual(next(coming), ((25, 12), "arrival", "bob", "nook"))
        self.assertEqual(all_with_past(house), before)
        self.assertEqual([event[2] for event in coming], ["ann", "gong"])
        with self.assertRaises(StopIteration):
            next(coming)
        self.assertEqual(all_with_past(house), before)

    def test_another_viewpoint(self):
        house = busy_house()
        expected = {"yard": [(5, 2), (5, 1), (7, 1)], "hall": [(5, 4), (5, 2), (7, 2)], "shed": [(0, 1)] * 3}
        for room in expected:
            house.viewpoint = room
            self.assertEqual([event[0] for event in events(house, (5, 1), by="yard")], expected[room])

    def test_none(self):
        house = busy_house()
        self.assertEqual(list(events(house, (1, 4), by="yard")), [])
        self.assertEqual(list(events(House("yard"), (10 ** 9, 1))), [])

    def test_at_the_end_and_at_one_moment(self):
        house = House("yard")
        for name in ("man", "bee"):
            house.come(name, "yard")
        house.build("hall", "yard")
        for name in ("man", "bee"):
            house.walk(name, "hall")
        for name in ("zeta", "alpha"):
            house.set_alarm(name, "yard", (1, 1))
            house.hang(name + "b", "yard")
        told = [(event[1], event[2]) for event in events(house, (1, 1))]
        self.assertEqual(told, [("arrival", "bee"), ("arrival", "man"), ("alarm", "alpha"), ("alarm", "zeta"),
                                ("stroke", "alphab"), ("stroke", "zetab")])

    def test_random_houses(self):
        chance = random.Random(31)
        for _ in range(120):
            house = random_house(chance)
            amount, by = random_number(chance, 15), chance.choice((None,) + house.rooms() + house.people())
            before = all_with_past(house)
            try:
                expected = house.copy().wait(amount, by=by)
            except (NeverReached, TooMany) as error:
                fields = vars(error)
                check_error(self, error.__class__, fields, lambda: next(events(house, amount, by=by)), house)
                continue
            self.assertEqual(tuple(events(house, amount, by=by)), expected)
            self.assertEqual(tuple(events(house, amount, by=by)), expected)
            self.assertEqual(all_with_past(house), before)


class ErrorTest(unittest.TestCase):
    def check(self, house, error, fields, amount, by=None):
        before = all_with_past(house)
        check_error(self, error, fields, lambda: next(events(house, amount, by=by)), house)
        self.assertEqual(all_with_past(house), before)

    def test_amount(self):
        house = busy_house()
        for amount in NO_NUMBERS + [(0, 1), (-1, 2)]:
            self.check(house, InvalidAmount, {"amount": amount}, amount)
            self.check(house, InvalidAmount, {"amount": amount}, amount, "attic")

    def test_no_timekeeper(self):
        house = busy_house()
        for by in NO_NAMES + ["attic", "gong", "cook"]:
            if by is not None:
                self.check(house, NoTimekeeper, {"name": by}, (1, 1), by)

    def test_never_reached(self):
        house = busy_house()
        self.check(house, NeverReached, {"name": "shed"}, (1, 1), "shed")
        house.viewpoint = "shed"
        self.check(house, NeverReached, {"name": "shed"}, (1, 1))
        house.come("cid", "yard")
        house.walk("cid", "shed")
        self.assertEqual(list(events(house, (1, 1), by="cid"))[-1][1:], ("arrival", "cid", "shed"))
        self.check(house, NeverReached, {"name": "cid"}, (1001, 1000), "cid")
        # The bell strikes more than 500 times before Cid arrives.
        house.hang("fast", "yard", step=(1, 999))
        self.check(house, NeverReached, {"name": "cid"}, (1001, 1000), "cid")
        self.check(house, TooMany, {"limit": 500}, (1, 1), "cid")

    def test_too_many_before_too_long(self):
        house = House("yard")
        house.hang("gong", "yard")
        self.assertEqual(len(list(events(house, (500, 1)))), 500)
        self.check(house, TooMany, {"limit": 500}, (501, 1))
        self.check(house, TooMany, {"limit": 500}, (10 ** 400, 1))

    def test_too_long(self):
        house = House("yard")
        self.assertEqual(list(events(house, (10 ** 400 - 1, 1))), [])
        self.check(house, TooLong, {"limit": 400}, (10 ** 400, 1))
        self.check(house, TooLong, {"limit": 400}, (1, 10 ** 400))
        house.build("hall", "yard", pace=(1, 60))
        self.check(house, TooLong, {"limit": 400}, number(1, 10 ** 399))


class PlaceTest(unittest.TestCase):
    def test_defined_in_this_file(self):
        self.assertEqual(events.__module__, previews.__name__)


if __name__ == "__main__":
    unittest.main()
