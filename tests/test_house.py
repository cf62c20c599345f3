"""Points [2], [3], [5] to [7] and [14], and the section "roompace/house.py" but for deeds and waits."""

import unittest

from roompace import house as house_module
from roompace.errors import (
    Full, InvalidName, InvalidPace, NoAlarm, NoBell, NoRoom, NoTimekeeper, Outermost,
)
from roompace.house import House
from roompace.lines import state_text
from roompace.timekeepers import RoomClock, Watch
from tests.helpers import NO_NAMES, all_of, check_error, small_house


class MakingTest(unittest.TestCase):
    def test_new_house(self):
        for house in (House("yard"), House(outermost="yard")):
            self.assertEqual(house.outermost, "yard")
            self.assertEqual(house.viewpoint, "yard")
            self.assertEqual(house.now, (0, 1))
            self.assertEqual(house.moment, (0, 1))
            self.assertEqual(house.rooms(), ("yard",))
            self.assertEqual((house.people(), house.bells(), house.alarms()), ((), (), ()))
            self.assertEqual(len(house), 1)

    def test_wrong_names(self):
        for name in NO_NAMES:
            check_error(self, InvalidName, {"name": name}, lambda: House(name))

    def test_is_name(self):
        for name in ("a", "z", "yard", "abcdefgh", "selfs", "sel"):
            self.assertIs(House.is_name(name), True)
            self.assertIs(House.is_name(thing=name), True)
        for name in NO_NAMES:
            self.assertIs(House.is_name(name), False)
        self.assertIs(House("yard").is_name("hall"), True)

    def test_class_values(self):
        limits = (House.MOST_ROOMS, House.MOST_PEOPLE, House.MOST_BELLS, House.MOST_ALARMS, House.MOST_EVENTS)
        self.assertEqual(limits, (10, 8, 8, 12, 500))

    def test_defined_in_this_file_and_class(self):
        self.assertEqual(House.__module__, house_module.__name__)
        for name in [
            "build", "set_pace", "carry", "come", "walk", "hang", "set_alarm", "cancel", "wait", "do", "set_paces",
            "viewpoint", "now", "moment", "outermost", "timekeeper", "rooms", "people", "bells", "alarms", "bell",
            "alarm", "rooms_inside", "copy", "is_name", "read", "__eq__", "__len__",
        ]:
            self.assertIn(name, vars(House))


class LimitTest(unittest.TestCase):
    def test_each_limit(self):
        house = House("yard")
        for letter in "abcdefghi":
            house.build("room" + letter, "yard")
        for letter in "abcdefgh":
            house.come("man" + letter, "yard")
            house.hang("bell" + letter, "yard")
        for letter in "abcdefghijkl":
            house.set_alarm("ring" + letter, "yard", (1, 1))
        self.assertEqual(len(house), 10)
        counts = (len(house.rooms()), len(house.people()), len(house.bells()), len(house.alarms()))
        self.assertEqual(counts, (10, 8, 8, 12))
        check_error(self, Full, {"limit": 10}, lambda: house.build("new", "yard"), house)
        check_error(self, Full, {"limit": 8}, lambda: house.come("new", "yard"), house)
        check_error(self, Full, {"limit": 8}, lambda: house.hang("new", "yard"), house)
        check_error(self, Full, {"limit": 12}, lambda: house.set_alarm("new", "yard", (1, 1)), house)


class ViewpointTest(unittest.TestCase):
    def test_assigned(self):
        house = small_house()
        house.wait((4, 1))
        self.assertEqual((house.now, house.moment), ((4, 1), (4, 1)))
        house.viewpoint = "hall"
        self.assertEqual(house.viewpoint, "hall")
        self.assertEqual((house.now, house.moment), ((2, 1), (4, 1)))
        house.viewpoint = "shed"
        self.assertEqual((house.now, house.moment), ((0, 1), (4, 1)))
        self.assertEqual(house.outermost, "yard")

    def test_no_room(self):
        house = small_house()
        house.viewpoint = "hall"

        def assign(room):
            house.viewpoint = room

        for room in NO_NAMES + ["attic", "ann", "gong", "cook"]:
            check_error(self, NoRoom, {"room": room}, lambda: assign(room), house)

    def test_other_properties_cannot_be_assigned(self):
        house = small_house()
        for name in ("now", "moment", "outermost"):
            with self.assertRaises(AttributeError):
                setattr(house, name, (1, 1))


class AskingTest(unittest.TestCase):
    def test_names_ascend(self):
        house = House("yard")
        for name in ("loft", "attic", "zoo"):
            house.build(name, "yard")
        for name in ("cid", "ann", "bob"):
            house.come(name, "yard")
        for name in ("gong", "bell"):
            house.hang(name, "yard")
        for name in ("wake", "cook"):
            house.set_alarm(name, "yard", (1, 1))
        self.assertEqual(house.rooms(), ("attic", "loft", "yard", "zoo"))
        self.assertEqual(house.people(), ("ann", "bob", "cid"))
        self.assertEqual(house.bells(), ("bell", "gong"))
        self.assertEqual(house.alarms(), ("cook", "wake"))

    def test_bell_and_alarm(self):
        house = small_house()
        self.assertEqual(house.bell("gong"), ("hall", (7, 2)))
        self.assertEqual(house.bell(name="gong"), ("hall", (7, 2)))
        self.assertEqual(house.alarm("cook"), ("yard", (100, 1)))
        self.assertEqual(house.alarm(name="cook"), ("yard", (100, 1)))
        for name in NO_NAMES + ["other", "yard", "ann"]:
            check_error(self, NoBell, {"name": name}, lambda: house.bell(name), house)
            check_error(self, NoAlarm, {"name": name}, lambda: house.alarm(name), house)
        check_error(self, NoBell, {"name": "cook"}, lambda: house.bell("cook"), house)
        check_error(self, NoAlarm, {"name": "gong"}, lambda: house.alarm("gong"), house)

    def test_timekeeper(self):
        house = small_house()
        for name in ("yard", "hall", "nook", "shed"):
            self.assertIs(house.timekeeper(name).__class__, RoomClock)
        for name in ("ann", "bob"):
            self.assertIs(house.timekeeper(name=name).__class__, Watch)
        for name in NO_NAMES + ["other", "gong", "cook"]:
            check_error(self, NoTimekeeper, {"name": name}, lambda: house.timekeeper(name), house)


class RoomsInsideTest(unittest.TestCase):
    def deep_house(self):
        house = House("yard")
        for room, around in [
            ("m", "yard"), ("z", "m"), ("b", "z"), ("a", "yard"), ("x", "a"), ("c", "m"), ("y", "yard"), ("d", "z"),
        ]:
            house.build(room, around)
        return house

    def test_order(self):
        house = self.deep_house()
        for room, inside in [
            ("yard", ["a", "x", "m", "c", "z", "b", "d", "y"]), ("m", ["c", "z", "b", "d"]), ("z", ["b", "d"]),
            ("a", ["x"]), ("b", []), ("y", []),
        ]:
            self.assertEqual(list(house.rooms_inside(room)), inside)
            self.assertEqual(list(house.rooms_inside(room=room)), inside)

    def test_it_yields(self):
        names = self.deep_house().rooms_inside("yard")
        self.assertEqual([next(names), next(names)], ["a", "x"])

    def test_after_a_room_was_carried(self):
        house = self.deep_house()
        house.carry("z", "y")
        self.assertEqual(list(house.rooms_inside("yard")), ["a", "x", "m", "c", "y", "z", "b", "d"])

    def test_ten_rooms_in_a_row(self):
        house = House("j")
        for k in range(9):
            house.build("abcdefghi"[k], "jabcdefghi"[k])
        self.assertEqual(list(house.rooms_inside("j")), list("abcdefghi"))

    def test_no_room(self):
        house = small_house()
        for room in NO_NAMES + ["attic", "ann", "gong", "cook"]:
            check_error(self, NoRoom, {"room": room}, lambda: next(house.rooms_inside(room)), house)


class SetPacesTest(unittest.TestCase):
    def test_all(self):
        house = small_house()
        self.assertIsNone(house.set_paces(nook=(1, 7), hall=(0, 1)))
        self.assertEqual([house.timekeeper(name).pace for name in ("hall", "nook", "shed")], [(0, 1), (1, 7), (0, 1)])
        before = all_of(house)
        self.assertIsNone(house.set_paces())
        self.assertEqual(all_of(house), before)

    def test_errors_of_the_first_name_and_none_is_changed(self):
        house = small_house()
        wrong = {"attic": ((1, 1), NoRoom, {"room": "attic"}), "yard": ((1, 1), Outermost, {"room": "yard"}),
                 "hall": ((61, 1), InvalidPace, {"pace": (61, 1)}), "ann": ((1, 1), NoRoom, {"room": "ann"})}
        for first in wrong:
            for second in wrong:
                paces = {"shed": (2, 1), first: wrong[first][0], second: wrong[second][0], "nook": (3, 1)}
                _, error, fields = wrong[first]
                check_error(self, error, fields, lambda: house.set_paces(**paces), house)

    def test_order_of_the_errors_of_one_name(self):
        house = small_house()
        check_error(self, NoRoom, {"room": "attic"}, lambda: house.set_paces(attic=None), house)
        check_error(self, Outermost, {"room": "yard"}, lambda: house.set_paces(yard=None), house)
        check_error(self, InvalidPace, {"pace": None}, lambda: house.set_paces(hall=None), house)
        check_error(self, NoRoom, {"room": "no name"}, lambda: house.set_paces(**{"no name": None}), house)


class CopyTest(unittest.TestCase):
    def test_same_and_independent(self):
        house = small_house()
        house.walk("ann", "hall")
        house.wait((1, 1))
        house.viewpoint = "nook"
        twin = house.copy()
        self.assertEqual(all_of(twin), all_of(house))
        self.assertIs(twin.__class__, House)
        before = all_of(house)
        twin.viewpoint = "hall"
        for deed in [
            ("pace", "hall", (5, 1)), ("wait", (30, 1), None), ("build", "new", "yard", (1, 1), (1, 1)),
            ("cancel", "cook"), ("carry", "nook", "yard"), ("come", "cid", "yard", (1, 1)), ("walk", "cid", "hall"),
            ("hang", "bell", "yard", (1, 1)), ("alarm", "wake", "yard", (100, 1)),
        ]:
            twin.do(deed)
            self.assertEqual(all_of(house), before)
        before = all_of(twin)
        house.cancel("cook")
        house.wait((1, 1))
        self.assertEqual(all_of(twin), before)

    def test_goes_on_in_the_same_way(self):
        house = small_house()
        house.walk("bob", "nook")
        house.wait((1, 2))
        twin = house.copy()
        self.assertEqual(twin.wait((40, 1)), house.wait((40, 1)))
        self.assertEqual(all_of(twin), all_of(house))


class EqualTest(unittest.TestCase):
    def test_equal_exactly_if_the_text_is(self):
        self.assertTrue(small_house() == small_house())
        self.assertFalse(small_house() != small_house())
        for deed in [
            ("pace", "hall", (5, 1)), ("wait", (1, 10 ** 9), None), ("build", "new", "yard", (1, 1), (1, 1)),
            ("cancel", "cook"), ("carry", "nook", "yard"), ("come", "cid", "yard", (1, 1)), ("walk", "ann", "hall"),
            ("hang", "bell", "yard", (1, 1)), ("alarm", "wake", "yard", (100, 1)),
        ]:
            house = small_house()
            house.do(deed)
            self.assertFalse(house == small_house())
            self.assertTrue(house != small_house())

    def test_order_of_building_and_viewpoint_do_not_matter(self):
        first, second = House("yard"), House("yard")
        for house, names in ((first, "abc"), (second, "cab")):
            for name in names:
                house.build(name, "yard")
                house.come("man" + name, "yard")
        second.viewpoint = "a"
        self.assertTrue(first == second)

    def test_other_objects(self):
        house = House("yard")
        for thing in (None, 0, "yard", state_text(house.state), (), [house], House):
            self.assertFalse(house == thing)
            self.assertTrue(house != thing)
        self.assertFalse(house == House("hall"))


class ArgumentTest(unittest.TestCase):
    def test_results_are_not_what_is_kept(self):
        house = small_house()
        before = all_of(house)
        list(house.rooms_inside("yard")).clear()
        list(house.rooms()).clear()
        self.assertEqual(all_of(house), before)

    def test_results_are_tuples(self):
        house = small_house()
        for result in (house.rooms(), house.people(), house.bells(), house.alarms(), house.bell("gong"), house.alarm("cook"),
                       house.wait((1, 1)), house.now, house.moment):
            self.assertIs(result.__class__, tuple)

    def test_arguments_are_not_changed(self):
        house = small_house()
        paces = {"hall": (1, 1), "nook": (2, 1)}
        house.set_paces(**paces)
        self.assertEqual(paces, {"hall": (1, 1), "nook": (2, 1)})
        thing = [1, [2]]
        for act in (house.bell, house.alarm, house.cancel, house.do, House, House.read, house.wait):
            with self.assertRaises(Exception):
                act(thing)
        self.assertEqual(thing, [1, [2]])


if __name__ == "__main__":
    unittest.main()
