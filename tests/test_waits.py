"""Points [7] to [10] and [12] to [14]: waits, events and their order, and the errors of a wait."""

import random
import unittest

from roompace.errors import InvalidAmount, NeverReached, NoTimekeeper, TooLong, TooMany
from roompace.house import House
from roompace.lines import state_text
from tests.helpers import check_error, read, small_house
from tests.model import Model, random_house, random_number


def readings(house):
    return [house.timekeeper(name).time for name in house.rooms() + house.people()]


class ClockTest(unittest.TestCase):
    def test_example(self):
        house = House("yard")
        house.build("hall", "yard", pace=(1, 2))
        house.come("ann", "yard")
        house.walk("ann", "hall")
        house.hang("gong", "hall", step=(2, 1))
        events = (((1, 1), "arrival", "ann", "hall"), ((4, 1), "stroke", "gong", "hall"))
        self.assertEqual(house.wait((5, 1)), events)
        self.assertEqual(house.timekeeper("ann").shown(), "ann 3 in hall")

    def test_all_clocks_and_watches(self):
        house = small_house()
        self.assertEqual(house.wait((3, 1)), ())
        # hall 1/2, nook 5/6, shed 0, yard 1; Ann in the yard, Bob with factor 2 in the hall
        self.assertEqual(readings(house), [(3, 2), (5, 2), (0, 1), (3, 1), (3, 1), (3, 1)])

    def test_by_each_timekeeper(self):
        for by, moment in [("yard", (6, 1)), ("hall", (12, 1)), ("nook", (36, 5)), ("ann", (6, 1)), ("bob", (6, 1))]:
            house = small_house()
            house.cancel("cook")
            house.wait((6, 1), by=by)
            self.assertEqual(house.moment, moment)
            self.assertEqual(house.timekeeper(by).time, (6, 1))

    def test_by_the_viewpoint(self):
        house = small_house()
        house.viewpoint = "hall"
        self.assertEqual(house.wait((4, 1)), (((7, 2), "stroke", "gong", "hall"),))
        self.assertEqual((house.now, house.moment), ((4, 1), (8, 1)))
        house.wait((1, 1), by=None)
        self.assertEqual(house.moment, (10, 1))
        house.wait(by="yard", amount=(1, 3))
        self.assertEqual(house.moment, (31, 3))

    def test_the_pace_is_changed_between_waits(self):
        house = small_house()
        house.wait((2, 1))
        house.set_pace("hall", (3, 1))
        house.wait((2, 1))
        self.assertEqual(house.timekeeper("hall").time, (7, 1))
        self.assertEqual(house.timekeeper("nook").time, (35, 3))
        self.assertEqual(house.timekeeper("bob").time, (14, 1))
        house.set_pace("hall", (0, 1))
        house.wait((2, 1))
        self.assertEqual(house.timekeeper("hall").time, (7, 1))
        self.assertEqual(house.timekeeper("nook").time, (35, 3))

    def test_deeds_take_no_time(self):
        house = small_house()
        house.wait((3, 1))
        before = readings(house)
        for deed in [("pace", "hall", (1, 1)), ("carry", "nook", "yard"), ("walk", "ann", "hall"), ("cancel", "cook")]:
            house.do(deed)
            self.assertEqual(readings(house), before)


class WalkTest(unittest.TestCase):
    def test_outwards_and_inwards(self):
        house = read("house yard 0", "room hall yard 1/2 3 0", "person ann yard 1 0", "person bob hall 1 0")
        house.walk("ann", "hall")
        house.walk("bob", "yard")
        self.assertEqual(house.wait((3, 1)), (((3, 1), "arrival", "ann", "hall"),))
        self.assertEqual(house.timekeeper("bob").place, "hall")
        self.assertEqual(house.wait((29, 10)), ())
        self.assertEqual(house.wait((1, 10)), (((6, 1), "arrival", "bob", "yard"),))
        self.assertEqual([house.timekeeper(name).shown() for name in ("ann", "bob")], ["ann 9/2 in hall", "bob 3 in yard"])
        house.wait((2, 1))
        self.assertEqual([house.timekeeper(name).shown() for name in ("ann", "bob")], ["ann 11/2 in hall", "bob 5 in yard"])

    def test_watch_goes_on_in_the_room_that_is_left(self):
        house = read("house yard 0", "room hall yard 5 2 0", "person ann yard 3 0 to hall 2")
        house.wait((1, 1))
        self.assertEqual(house.timekeeper("ann").shown(), "ann 3 in yard")
        house.wait((2, 1))
        self.assertEqual(house.timekeeper("ann").shown(), "ann 21 in hall")

    def test_through_several_doors(self):
        house = read("house yard 0", "room hall yard 1/2 3 0", "room nook hall 4 1 0", "person ann yard 1 0")
        seen = []
        for room in ("hall", "nook", "hall", "yard"):
            house.walk("ann", room)
            seen.extend(house.wait((6, 1)))
        self.assertEqual(seen, [
            ((3, 1), "arrival", "ann", "hall"), ((8, 1), "arrival", "ann", "nook"), ((25, 2), "arrival", "ann", "hall"),
            ((24, 1), "arrival", "ann", "yard"),
        ])

    def test_the_pace_of_the_room_that_is_left_changes(self):
        house = read("house yard 0", "room hall yard 1/2 3 0", "person ann hall 1 0")
        house.walk("ann", "yard")
        house.wait((2, 1))
        house.set_pace("hall", (0, 1))
        self.assertEqual(house.wait((50, 1)), ())
        self.assertEqual(house.timekeeper("ann").shown(), "ann 1 in hall")
        house.set_pace("hall", (4, 1))
        self.assertEqual(house.wait((1, 1)), (((105, 2), "arrival", "ann", "yard"),))

    def test_into_a_room_that_stands_still(self):
        house = read("house yard 0", "room hall yard 0 3 0", "person ann yard 1 0 to hall 3")
        self.assertEqual(house.wait((5, 1)), (((3, 1), "arrival", "ann", "hall"),))
        self.assertEqual(house.timekeeper("ann").time, (3, 1))
        house.walk("ann", "yard")
        self.assertEqual(house.wait((5, 1)), ())
        self.assertEqual(house.timekeeper("ann").place, "hall")


class BellTest(unittest.TestCase):
    def test_strokes(self):
        house = read("house yard 1/2", "room hall yard 3/2 1 7", "bell bell yard 1/3", "bell gong hall 2")
        self.assertEqual(house.wait((1, 1)), (
            ((2, 3), "stroke", "bell", "yard"), ((1, 1), "stroke", "bell", "yard"), ((7, 6), "stroke", "gong", "hall"),
            ((4, 3), "stroke", "bell", "yard"),
        ))

    def test_hung_at_a_multiple(self):
        house = House("yard")
        house.hang("first", "yard", step=(2, 1))
        house.wait((4, 1))
        house.hang("gong", "yard", step=(2, 1))
        self.assertEqual(house.wait((1, 1)), ())
        self.assertEqual(house.wait((1, 1)), (((6, 1), "stroke", "first", "yard"), ((6, 1), "stroke", "gong", "yard")))

    def test_a_room_that_runs_on_at_a_multiple(self):
        house = read("house yard 0", "room hall yard 1 1 0", "bell gong hall 2")
        self.assertEqual(len(house.wait((2, 1))), 1)
        house.set_pace("hall", (0, 1))
        self.assertEqual(house.wait((100, 1)), ())
        house.set_pace("hall", (1, 1))
        self.assertEqual(house.wait((1, 1)), ())
        self.assertEqual(house.wait((1, 1)), (((104, 1), "stroke", "gong", "hall"),))

    def test_a_bell_in_a_room_that_is_carried(self):
        house = read("house yard 0", "room hall yard 2 1 0", "room nook yard 3 1 0", "bell gong nook 5")
        house.wait((1, 1))
        house.carry("nook", "hall")
        self.assertEqual(house.wait((1, 1)), (((4, 3), "stroke", "gong", "nook"),))


class AlarmTest(unittest.TestCase):
    def test_of_a_room_and_of_a_person(self):
        house = small_house()
        house.set_alarm("wake", "bob", (4, 1))
        house.set_alarm("bake", "nook", (5, 2))
        house.set_alarm("never", "shed", (1, 1))
        self.assertEqual(house.wait((4, 1)), (((3, 1), "alarm", "bake", "nook"), ((4, 1), "alarm", "wake", "bob")))
        self.assertEqual(house.alarms(), ("cook", "never"))
        self.assertEqual(house.wait((200, 1))[-1][:2], ((203, 1), "stroke"))
        self.assertEqual(house.alarms(), ("never",))

    def test_during_and_after_a_walk(self):
        house = read("house yard 0", "room hall yard 1/2 3 0", "person ann yard 2 0 to hall 3",
                     "alarm a ann 5", "alarm b ann 6", "alarm c ann 13/2", "alarm d ann 7")
        self.assertEqual(house.wait((7, 2)), (
            ((5, 2), "alarm", "a", "ann"), ((3, 1), "arrival", "ann", "hall"), ((3, 1), "alarm", "b", "ann"),
            ((7, 2), "alarm", "c", "ann"),
        ))
        self.assertEqual(house.wait((1, 2)), (((4, 1), "alarm", "d", "ann"),))

    def test_after_an_arrival_in_a_room_that_stands_still(self):
        house = read("house yard 0", "room hall yard 0 3 0", "person ann yard 1 0 to hall 3", "alarm a ann 3", "alarm b ann 4")
        self.assertEqual(house.wait((90, 1)), (((3, 1), "arrival", "ann", "hall"), ((3, 1), "alarm", "a", "ann")))
        self.assertEqual(house.alarms(), ("b",))

    def test_the_name_is_free_again(self):
        house = House("yard")
        house.set_alarm("cook", "yard", (1, 1))
        house.wait((1, 1))
        house.set_alarm("cook", "yard", (2, 1))
        self.assertEqual(house.wait((5, 1)), (((2, 1), "alarm", "cook", "yard"),))
        house.come("cook", "yard")
        self.assertEqual(house.people(), ("cook",))


class OrderTest(unittest.TestCase):
    def test_at_one_moment(self):
        house = read(
            "house yard 0", "room hall yard 2 6 0", "room shed yard 1/2 6 0",
            "person zoe yard 1 0 to hall 6", "person zora hall 1 0", "person zwo shed 5 0",
            "bell a yard 3", "bell b hall 4", "bell c shed 3", "alarm d yard 6", "alarm e zora 12", "alarm f hall 12",
        )
        house.wait((5, 1))
        events = house.wait((1, 1))
        self.assertEqual(events, (
            ((6, 1), "arrival", "zoe", "hall"),
            ((6, 1), "alarm", "d", "yard"), ((6, 1), "alarm", "e", "zora"), ((6, 1), "alarm", "f", "hall"),
            ((6, 1), "stroke", "a", "yard"), ((6, 1), "stroke", "b", "hall"), ((6, 1), "stroke", "c", "shed"),
        ))

    def test_arrivals_at_one_moment(self):
        house = read("house yard 0", "room hall yard 1 6 0", "person a yard 1 0", "person b hall 1 0", "person c yard 1 0")
        for person, room in (("c", "hall"), ("b", "yard"), ("a", "hall")):
            house.walk(person, room)
        self.assertEqual([event[2] for event in house.wait((6, 1))], ["a", "b", "c"])

    def test_names_and_moments_that_are_close(self):
        house = House("yard")
        house.set_alarm("a", "yard", (10 ** 300 + 3, 10 ** 300))
        house.set_alarm("b", "yard", (10 ** 300 + 1, 10 ** 300))
        house.set_alarm("c", "yard", (1, 1))
        self.assertEqual([event[2] for event in house.wait((2, 1))], ["c", "b", "a"])

    def test_readings_of_the_viewpoint(self):
        house = read("house yard 1", "room hall yard 1/2 1 7", "room shed yard 0 1 5", "bell gong yard 2")
        for viewpoint, reading in [("yard", (2, 1)), ("hall", (15, 2)), ("shed", (5, 1))]:
            twin = house.copy()
            twin.viewpoint = viewpoint
            self.assertEqual(twin.wait((1, 1), by="yard"), ((reading, "stroke", "gong", "yard"),))


class CutTest(unittest.TestCase):
    def test_an_event_at_the_cut_belongs_to_the_first_wait(self):
        lines = ["house yard 0", "room hall yard 2 3 0", "person ann yard 1 0 to hall 3", "bell gong yard 3", "alarm cook ann 3"]
        house = read(*lines)
        events = (((3, 1), "arrival", "ann", "hall"), ((3, 1), "alarm", "cook", "ann"), ((3, 1), "stroke", "gong", "yard"))
        self.assertEqual(house.wait((3, 1)), events)
        self.assertEqual(house.wait((2, 1)), ())
        whole = read(*lines)
        self.assertEqual(whole.wait((5, 1)), events)
        self.assertEqual(state_text(whole.state), state_text(house.state))

    def test_nothing_before_the_end(self):
        house = read("house yard 0", "bell gong yard 3")
        self.assertEqual(house.wait((3 * 10 ** 200 - 1, 10 ** 200)), ())
        self.assertEqual(len(house.wait((1, 10 ** 200))), 1)

    def test_by_a_person_who_arrives_at_the_end(self):
        # The watch grows by 3 up to the arrival, and then no more.
        house = read("house yard 0", "room hall yard 0 3 0", "person ann yard 1 0 to hall 3")
        self.assertEqual(house.wait((3, 1), by="ann"), (((3, 1), "arrival", "ann", "hall"),))
        self.assertEqual(house.moment, (3, 1))

    def test_by_a_person_beyond_the_arrival(self):
        house = read("house yard 0", "room hall yard 1/2 3 0", "person ann yard 2 0 to hall 3")
        house.wait((10, 1), by="ann")
        self.assertEqual(house.moment, (7, 1))


class NeverReachedTest(unittest.TestCase):
    def check(self, house, amount, by, name):
        check_error(self, NeverReached, {"name": name}, lambda: house.wait(amount, by=by), house)

    def test_a_room(self):
        house = small_house()
        house.build("cot", "shed")
        self.check(house, (1, 10 ** 300), "shed", "shed")
        self.check(house, (1, 1), "cot", "cot")
        house.viewpoint = "cot"
        self.check(house, (1, 1), None, "cot")
        house.wait((1, 1), by="hall")

    def test_a_person(self):
        house = small_house()
        house.come("cid", "shed")
        self.check(house, (1, 1), "cid", "cid")
        house.walk("cid", "yard")
        self.check(house, (1, 1), "cid", "cid")

    def test_a_person_who_will_arrive_in_a_room_that_stands_still(self):
        house = small_house()
        house.walk("ann", "shed")
        self.check(house, (10 ** 300 + 1, 10 ** 300), "ann", "ann")
        self.check(house, (2, 1), "ann", "ann")
        house.wait((1, 2), by="ann")
        self.check(house, (51, 100), "ann", "ann")
        self.assertEqual(len(house.wait((1, 2), by="ann")), 1)

    def test_order_of_the_errors(self):
        house = small_house()
        house.viewpoint = "shed"
        check_error(self, InvalidAmount, {"amount": (0, 1)}, lambda: house.wait((0, 1), by="attic"), house)
        check_error(self, InvalidAmount, {"amount": (0, 1)}, lambda: house.wait((0, 1)), house)
        check_error(self, NoTimekeeper, {"name": "gong"}, lambda: house.wait((1, 1), by="gong"), house)
        # The bell would strike too often, and readings would be too long, but the shed never comes so far.
        self.check(house, (10 ** 400, 1), None, "shed")


class TooManyTest(unittest.TestCase):
    def test_500_strokes_and_501(self):
        house = House("yard")
        house.hang("gong", "yard")
        check_error(self, TooMany, {"limit": 500}, lambda: house.wait((501, 1)), house)
        twin = house.copy()
        self.assertEqual(len(twin.wait((500, 1))), 500)
        self.assertEqual(len(house.wait((500999, 1000))), 500)

    def test_all_kinds_count(self):
        lines = ["house yard 0", "room hall yard 1 3 0", "person ann yard 1 0 to hall 3", "bell bell hall 2", "bell gong yard 1",
                 "alarm cook yard 5"]
        house = read(*lines)
        # 332 + 166 strokes, an arrival and an alarm
        self.assertEqual(len(house.copy().wait((332, 1))), 500)
        check_error(self, TooMany, {"limit": 500}, lambda: house.wait((333, 1)), house)
        house.cancel("cook")
        self.assertEqual(len(house.copy().wait((333, 1))), 500)
        check_error(self, TooMany, {"limit": 500}, lambda: house.wait((334, 1)), house)

    def test_far_too_many(self):
        house = House("yard")
        house.hang("gong", "yard", step=(1, 999))
        house.build("hall", "yard", pace=(60, 1))
        house.hang("bell", "hall", step=(1, 999))
        for amount in ((10 ** 12, 1), (10 ** 399, 1), (10 ** 400, 1)):
            check_error(self, TooMany, {"limit": 500}, lambda: house.wait(amount), house)
        self.assertEqual(len(house.wait((500, 61 * 999))), 499)

    def test_alarms_that_do_not_ring_do_not_count(self):
        house = read("house yard 0", "room hall yard 0 1 0", "bell gong yard 1", "alarm a hall 1", "alarm b yard 1000")
        self.assertEqual(len(house.wait((500, 1))), 500)


class TooLongTest(unittest.TestCase):
    def test_above(self):
        house = House("yard")
        self.assertEqual(house.copy().wait((10 ** 400 - 1, 1)), ())
        check_error(self, TooLong, {"limit": 400}, lambda: house.wait((10 ** 400, 1)), house)
        house.wait((10 ** 400 - 2, 1))
        check_error(self, TooLong, {"limit": 400}, lambda: house.wait((2, 1)), house)
        house.wait((1, 1))
        self.assertEqual(house.now, (10 ** 400 - 1, 1))

    def test_below(self):
        house = House("yard")
        house.build("hall", "yard", pace=(1, 2))
        # The reading of the hall has twice as much below.
        check_error(self, TooLong, {"limit": 400}, lambda: house.wait((1, 5 * 10 ** 399)), house)
        house.wait((1, 5 * 10 ** 399 - 1))
        self.assertEqual(house.timekeeper("hall").time, (1, 10 ** 400 - 2))

    def test_below_at_the_limit(self):
        house = House("yard")
        check_error(self, TooLong, {"limit": 400}, lambda: house.wait((1, 10 ** 400)), house)
        house.wait((1, 10 ** 400 - 1))
        self.assertEqual(house.now, (1, 10 ** 400 - 1))

    def test_any_timekeeper(self):
        for lines in (
            ["room hall yard 2 1 0"], ["person ann yard 2 0"], ["room hall yard 2 1 0", "person ann yard 1 0 to hall 1"],
        ):
            house = read("house yard 0", *lines)
            check_error(self, TooLong, {"limit": 400}, lambda: house.wait((6 * 10 ** 399, 1)), house)
            house.wait((4 * 10 ** 399, 1))
        house = read("house yard 0", "room hall yard 0 1 " + "9" * 400, "room shed yard 1/2 1 0")
        house.wait((1, 1))

    def test_only_the_end_matters(self):
        # Half of the wait is no reading that is too long at the end.
        house = House("yard")
        house.wait((1, 10 ** 399))
        house.wait((10 ** 399 - 1, 10 ** 399))
        self.assertEqual(house.now, (1, 1))
        house.set_alarm("cook", "yard", (10 ** 401 + 1, 10 ** 401))
        self.assertEqual(house.wait((1, 1)), (((10 ** 401 + 1, 10 ** 401), "alarm", "cook", "yard"),))

    def test_too_many_before_too_long(self):
        house = House("yard")
        house.hang("gong", "yard")
        check_error(self, TooMany, {"limit": 500}, lambda: house.wait((10 ** 400, 1)), house)
        check_error(self, TooLong, {"limit": 400}, lambda: house.wait((500 * 10 ** 400 + 1, 10 ** 400)), house)


class ModelTest(unittest.TestCase):
    def test_random_houses(self):
        chance = random.Random(12)
        waits = 0
        for _ in range(150):
            house = random_house(chance)
            for _ in range(3):
                model = Model(state_text(house.state))
                amount, by = random_number(chance, 15), chance.choice(house.rooms() + house.people())
                expected = model.wait(amount, by, house.viewpoint)
                if expected is None:
                    with self.assertRaises((NeverReached, TooMany)):
                        house.wait(amount, by=by)
                    continue
                waits += 1
                self.assertEqual(house.wait(amount, by=by), tuple(expected))
                for name in house.rooms() + house.people():
                    fraction = model.time(name)
                    self.assertEqual(house.timekeeper(name).time, (fraction.numerator, fraction.denominator))
                    fraction = model.rate(name)
                    self.assertEqual(house.timekeeper(name).rate, (fraction.numerator, fraction.denominator))
                for name in house.people():
                    self.assertEqual(house.timekeeper(name).place, model.people[name]["place"])
                    self.assertEqual(house.timekeeper(name).goal, model.people[name]["goal"])
                self.assertEqual(house.alarms(), tuple(sorted(model.alarms)))
        self.assertGreater(waits, 200)


if __name__ == "__main__":
    unittest.main()
