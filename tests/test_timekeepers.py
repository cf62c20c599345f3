"""Points [6] and [7] and the section "roompace/timekeepers.py"."""

import unittest

from roompace import timekeepers
from roompace.errors import InvalidPace, NoTimekeeper, Outermost
from roompace.house import House
from roompace.timekeepers import RoomClock, Timekeeper, Watch
from tests.helpers import NO_NAMES, NO_NUMBERS, check_error, small_house

CLOCK_PROPERTIES = ("label", "time", "rate", "around", "pace", "way")
WATCH_PROPERTIES = ("label", "time", "rate", "factor", "place", "goal")


def values(keeper, names):
    return tuple(getattr(keeper, name) for name in names)


class RoomClockTest(unittest.TestCase):
    def test_outermost(self):
        house = small_house()
        clock = house.timekeeper("yard")
        self.assertEqual(values(clock, CLOCK_PROPERTIES), ("yard", (0, 1), (1, 1), None, (1, 1), None))
        self.assertEqual(clock.shown(), "yard 0")
        house.wait((7, 2))
        self.assertEqual(values(clock, CLOCK_PROPERTIES), ("yard", (7, 2), (1, 1), None, (1, 1), None))
        self.assertEqual(clock.shown(), "yard 7/2")

    def test_inner_rooms(self):
        house = small_house()
        house.wait((3, 1))
        hall, nook, shed = [house.timekeeper(name) for name in ("hall", "nook", "shed")]
        self.assertEqual(values(hall, CLOCK_PROPERTIES), ("hall", (3, 2), (1, 2), "yard", (1, 2), (3, 1)))
        self.assertEqual(values(nook, CLOCK_PROPERTIES), ("nook", (5, 2), (5, 6), "hall", (5, 3), (1, 4)))
        self.assertEqual(values(shed, CLOCK_PROPERTIES), ("shed", (0, 1), (0, 1), "yard", (0, 1), (1, 1)))
        shown = [clock.shown() for clock in (hall, nook, shed)]
        self.assertEqual(shown, ["hall 3/2 at 1/2 in yard", "nook 5/2 at 5/3 in hall", "shed 0 at 0 in yard"])

    def test_present_state_after_deeds(self):
        house = small_house()
        nook = house.timekeeper("nook")
        house.set_pace("hall", (0, 1))
        self.assertEqual((nook.rate, nook.pace), ((0, 1), (5, 3)))
        house.carry("nook", "yard")
        self.assertEqual((nook.rate, nook.around), ((5, 3), "yard"))
        house.wait((3, 1))
        self.assertEqual(nook.shown(), "nook 5 at 5/3 in yard")
        house.set_pace("nook", (2, 1))
        self.assertEqual(nook.shown(), "nook 5 at 2 in yard")
        self.assertEqual(nook.rate, (2, 1))

    def test_the_viewpoint_changes_nothing(self):
        house = small_house()
        clock = house.timekeeper("nook")
        before = values(clock, CLOCK_PROPERTIES)
        house.viewpoint = "nook"
        self.assertEqual(values(clock, CLOCK_PROPERTIES), before)

    def test_pace_assigned(self):
        house = small_house()
        clock = house.timekeeper("hall")
        clock.pace = (60, 59)
        self.assertEqual((clock.pace, clock.rate), ((60, 59), (60, 59)))
        self.assertEqual(house.timekeeper("nook").rate, (100, 59))
        clock.pace = (0, 1)
        self.assertEqual((clock.pace, clock.rate), ((0, 1), (0, 1)))

    def test_pace_assigned_wrongly(self):
        house = small_house()

        def assign(name, pace):
            house.timekeeper(name).pace = pace

        for pace in NO_NUMBERS + [(61, 1), (-1, 2)]:
            check_error(self, InvalidPace, {"pace": pace}, lambda: assign("hall", pace), house)
        for pace in ((1, 1), (2, 1), None):
            check_error(self, Outermost, {"room": "yard"}, lambda: assign("yard", pace), house)

    def test_other_properties_cannot_be_assigned(self):
        house = small_house()
        for name in ("label", "time", "rate", "around", "way"):
            with self.assertRaises(AttributeError):
                setattr(house.timekeeper("hall"), name, (1, 1))
        for name in WATCH_PROPERTIES:
            with self.assertRaises(AttributeError):
                setattr(house.timekeeper("ann"), name, (1, 1))


class WatchTest(unittest.TestCase):
    def test_who_does_not_walk(self):
        house = small_house()
        house.wait((3, 1))
        ann, bob = house.timekeeper("ann"), house.timekeeper("bob")
        self.assertEqual(values(ann, WATCH_PROPERTIES), ("ann", (3, 1), (1, 1), (1, 1), "yard", None))
        self.assertEqual(values(bob, WATCH_PROPERTIES), ("bob", (3, 1), (1, 1), (2, 1), "hall", None))
        self.assertEqual([ann.shown(), bob.shown()], ["ann 3 in yard", "bob 3 in hall"])

    def test_who_walks(self):
        house = small_house()
        bob = house.timekeeper("bob")
        house.walk("bob", "nook")
        self.assertEqual(values(bob, WATCH_PROPERTIES), ("bob", (0, 1), (1, 1), (2, 1), "hall", "nook"))
        house.wait((2, 5))
        self.assertEqual(values(bob, WATCH_PROPERTIES), ("bob", (2, 5), (1, 1), (2, 1), "hall", "nook"))
        self.assertEqual(bob.shown(), "bob 2/5 in hall")
        house.wait((1, 10))
        self.assertEqual(values(bob, WATCH_PROPERTIES), ("bob", (1, 2), (5, 3), (2, 1), "nook", None))
        self.assertEqual(bob.shown(), "bob 1/2 in nook")
        house.set_pace("hall", (0, 1))
        self.assertEqual(bob.rate, (0, 1))


class NoTimekeeperTest(unittest.TestCase):
    def check_missing(self, keeper, name, properties):
        for item in properties:
            check_error(self, NoTimekeeper, {"name": name}, lambda: getattr(keeper, item))
        check_error(self, NoTimekeeper, {"name": name}, keeper.shown)

    def test_no_such_room(self):
        house = small_house()
        for name in NO_NAMES + ["attic", "gong", "cook", "ann"]:
            self.check_missing(RoomClock(house, name), name, CLOCK_PROPERTIES)

    def test_no_such_person(self):
        house = small_house()
        for name in NO_NAMES + ["cid", "gong", "cook", "hall"]:
            self.check_missing(Watch(house, name), name, WATCH_PROPERTIES)

    def test_neither(self):
        house = small_house()
        for name in NO_NAMES + ["cid", "gong", "cook"]:
            self.check_missing(Timekeeper(house, name), name, ("label", "time", "rate"))

    def test_pace_assigned(self):
        house = small_house()

        def assign(name, pace):
            RoomClock(house, name).pace = pace

        for pace in ((1, 1), None):
            for name in ("attic", "ann", None, ["hall"]):
                check_error(self, NoTimekeeper, {"name": name}, lambda: assign(name, pace), house)

    def test_at_that_time(self):
        house = small_house()
        clock, watch = RoomClock(house, "loft"), Watch(house, "cid")
        self.check_missing(clock, "loft", CLOCK_PROPERTIES)
        self.check_missing(watch, "cid", WATCH_PROPERTIES)
        house.build("loft", "hall")
        house.come("cid", "loft")
        self.assertEqual(clock.shown(), "loft 0 at 1 in hall")
        self.assertEqual(watch.shown(), "cid 0 in loft")


class ClassTest(unittest.TestCase):
    def test_made_for_a_house_and_a_name(self):
        house = small_house()
        self.assertEqual(Timekeeper(house, "hall").shown(), "hall 0")
        self.assertEqual(Timekeeper(house, "bob").shown(), "bob 0")
        self.assertEqual(values(Timekeeper(house, "bob"), ("label", "time", "rate")), ("bob", (0, 1), (1, 1)))
        self.assertEqual(RoomClock(house, "hall").shown(), "hall 0 at 1/2 in yard")
        self.assertEqual(Watch(house, "bob").shown(), "bob 0 in hall")
        self.assertEqual(RoomClock(house, "hall").label, "hall")

    def test_defined_in_the_classes_themselves(self):
        for keeper, names in [
            (Timekeeper, ("label", "time", "rate", "shown")), (RoomClock, ("around", "pace", "way", "shown")),
            (Watch, ("factor", "place", "goal", "shown")),
        ]:
            self.assertEqual(keeper.__module__, timekeepers.__name__)
            for name in names:
                self.assertIn(name, vars(keeper))
        self.assertEqual((RoomClock.__bases__, Watch.__bases__), ((Timekeeper,), (Timekeeper,)))

    def test_two_houses(self):
        first, second = House("yard"), House("yard")
        clock = first.timekeeper("yard")
        second.wait((5, 1))
        self.assertEqual(clock.time, (0, 1))


if __name__ == "__main__":
    unittest.main()
