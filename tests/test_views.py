"""Point [14] and the section "roompace/views.py"."""

import random
import unittest

from roompace import views
from roompace.errors import (
    InvalidDeed, InvalidPace, NeverReached, NoAlarm, NoPerson, NoRoom, NoTimekeeper, Outermost, TooMany,
)
from roompace.house import House
from roompace.numbers import add, multiply, subtract
from roompace.previews import events
from roompace.trials import Trial
from roompace.views import View, viewed
from tests.helpers import NO_DEEDS, NO_NAMES, all_of, all_with_past, check_error, small_house
from tests.model import random_house, random_number

NO_ROOMS = NO_NAMES + ["attic", "ann", "gong", "cook"]


class Oops(Exception):
    pass


class ViewTest(unittest.TestCase):
    def test_before_inside_and_behind(self):
        house = small_house()
        house.wait((4, 1))
        house.viewpoint = "nook"
        view = View(house, "hall")
        self.assertEqual((house.viewpoint, house.now), ("nook", (10, 3)))
        with view:
            self.assertEqual((house.viewpoint, house.now, house.moment), ("hall", (2, 1), (4, 1)))
        self.assertEqual((house.viewpoint, house.now), ("nook", (10, 3)))

    def test_arguments_by_name(self):
        house = small_house()
        with View(house=house, room="shed"):
            self.assertEqual(house.viewpoint, "shed")
        self.assertEqual(house.viewpoint, "yard")

    def test_only_the_viewpoint_is_given_back(self):
        house = small_house()
        twin = small_house()
        with View(house, "hall"):
            house.wait((2, 1))
            house.come("cid", "nook")
        twin.wait((2, 1), by="hall")
        twin.come("cid", "nook")
        self.assertEqual(all_with_past(house), all_with_past(twin))

    def test_a_viewpoint_that_is_assigned_inside(self):
        house = small_house()
        house.viewpoint = "nook"
        with View(house, "hall"):
            house.viewpoint = "shed"
            self.assertEqual(house.viewpoint, "shed")
            house.build("loft", "hall")
            house.viewpoint = "loft"
        self.assertEqual(house.viewpoint, "nook")
        self.assertIn("loft", house.rooms())

    def test_the_viewpoint_at_the_beginning_of_the_block(self):
        house = small_house()
        view = View(house, "hall")
        house.viewpoint = "shed"
        with view:
            self.assertEqual(house.viewpoint, "hall")
        self.assertEqual(house.viewpoint, "shed")

    def test_the_room_that_is_the_viewpoint_already(self):
        house = small_house()
        with View(house, "yard"):
            self.assertEqual(house.viewpoint, "yard")
        self.assertEqual(house.viewpoint, "yard")

    def test_after_an_error(self):
        house = small_house()
        house.viewpoint = "nook"
        with self.assertRaises(Oops):
            with View(house, "hall"):
                house.wait((2, 1))
                raise Oops()
        self.assertEqual((house.viewpoint, house.moment), ("nook", (4, 1)))
        with self.assertRaises(NoRoom) as caught:
            with View(house, "hall"):
                house.viewpoint = "attic"
        self.assertEqual((house.viewpoint, caught.exception.room), ("nook", "attic"))

    def test_after_a_return(self):
        house = small_house()

        def now_in(room):
            with View(house, room):
                return house.viewpoint

        self.assertEqual(now_in("hall"), "hall")
        self.assertEqual(house.viewpoint, "yard")

    def test_one_block_inside_another(self):
        house = small_house()
        seen = []
        with View(house, "hall"):
            with View(house, "nook"):
                seen.append(house.viewpoint)
                with View(house, "yard"):
                    seen.append(house.viewpoint)
                seen.append(house.viewpoint)
            seen.append(house.viewpoint)
        seen.append(house.viewpoint)
        self.assertEqual(seen, ["nook", "yard", "nook", "hall", "yard"])

    def test_one_block_inside_another_after_errors(self):
        house = small_house()
        with View(house, "hall"):
            with self.assertRaises(Oops):
                with View(house, "nook"), View(house, "shed"):
                    raise Oops()
            self.assertEqual(house.viewpoint, "hall")
        self.assertEqual(house.viewpoint, "yard")

    def test_one_view_used_again_and_inside_itself(self):
        house = small_house()
        view = View(house, "hall")
        for room in ("nook", "shed"):
            house.viewpoint = room
            with view:
                self.assertEqual(house.viewpoint, "hall")
                house.viewpoint = "yard"
                with view:
                    self.assertEqual(house.viewpoint, "hall")
                self.assertEqual(house.viewpoint, "yard")
            self.assertEqual(house.viewpoint, room)

    def test_of_two_houses(self):
        house = small_house()
        twin = house.copy()
        with View(house, "hall"), View(twin, "nook"):
            self.assertEqual((house.viewpoint, twin.viewpoint), ("hall", "nook"))
            third = house.copy()
        self.assertEqual((house.viewpoint, twin.viewpoint, third.viewpoint), ("yard", "yard", "hall"))

    def test_no_room_when_it_is_made(self):
        house = small_house()
        house.viewpoint = "nook"
        for room in NO_ROOMS:
            check_error(self, NoRoom, {"room": room}, lambda: View(house, room), house)

    def test_a_room_that_is_gone_behind_a_trial(self):
        house = small_house()
        with Trial(house):
            house.build("loft", "yard")
            view = View(house, "loft")
        with self.assertRaises(NoRoom):
            with view:
                pass
        self.assertEqual(house.viewpoint, "yard")

    def test_events_of_a_wait_from_every_room(self):
        chance = random.Random(41)
        for _ in range(60):
            house = random_house(chance)
            amount, by = random_number(chance, 12), chance.choice(house.rooms() + house.people())
            try:
                expected = house.copy().wait(amount, by=by)
            except (NeverReached, TooMany):
                continue
            before = house.viewpoint
            for room in house.rooms():
                twin = house.copy()
                start, rate = twin.timekeeper(room).time, twin.timekeeper(room).rate
                moments = [subtract(event[0], house.moment) for event in seen_by(house, house.outermost, amount, by)]
                with View(twin, room):
                    told = twin.wait(amount, by=by)
                self.assertEqual(twin.viewpoint, before)
                self.assertEqual([event[1:] for event in told], [event[1:] for event in expected])
                self.assertEqual([event[0] for event in told], [add(start, multiply(rate, moment)) for moment in moments])


def seen_by(house, room, amount, by):
    twin = house.copy()
    twin.viewpoint = room
    return list(events(twin, amount, by=by))


class ViewedTest(unittest.TestCase):
    def test_what_the_deeds_return(self):
        house = small_house()
        house.viewpoint = "nook"
        told = viewed(house, "hall", ("hang", "bell", "yard", (4, 1)), ("wait", (2, 1), None), ("wait", (4, 1), "yard"))
        self.assertEqual(told, (
            None, (((2, 1), "stroke", "bell", "yard"),),
            (((7, 2), "stroke", "gong", "hall"), ((4, 1), "stroke", "bell", "yard")),
        ))
        self.assertIs(told.__class__, tuple)
        self.assertEqual((house.viewpoint, house.moment), ("nook", (8, 1)))

    def test_every_deed(self):
        house, twin = small_house(), small_house()
        deeds = [
            ("build", "loft", "hall", (2, 1), (1, 1)), ("pace", "loft", (3, 1)), ("carry", "loft", "yard"),
            ("come", "cid", "yard", (1, 2)), ("walk", "cid", "loft"), ("hang", "bell", "loft", (1, 1)),
            ("alarm", "wake", "cid", (1, 2)), ("cancel", "cook"), ("wait", (1, 1), "loft"),
        ]
        told = viewed(house, "hall", *deeds)
        self.assertEqual(told, (None,) * 8 + ((((1, 6), "stroke", "bell", "loft"),),))
        for deed in deeds:
            twin.do(deed)
        self.assertEqual(all_with_past(house), all_with_past(twin))

    def test_no_deeds(self):
        house = small_house()
        before = all_with_past(house)
        self.assertEqual(viewed(house, "hall"), ())
        self.assertEqual(all_with_past(house), before)

    def test_no_room(self):
        house = small_house()
        for room in NO_ROOMS:
            for deeds in ([], [("cancel", "cook")], [None], [("cancel", "cook"), ("cancel",)]):
                check_error(self, NoRoom, {"room": room}, lambda: viewed(house, room, *deeds), house)

    def test_objects_that_are_no_deeds(self):
        house = small_house()
        house.viewpoint = "nook"
        fits = ("cancel", "cook")
        for thing in NO_DEEDS:
            check_error(self, InvalidDeed, {"index": 0}, lambda: viewed(house, "hall", thing), house)
            check_error(self, InvalidDeed, {"index": 0}, lambda: viewed(house, "hall", thing, fits), house)
            check_error(self, InvalidDeed, {"index": 1}, lambda: viewed(house, "hall", fits, thing, None), house)
            check_error(self, InvalidDeed, {"index": 2}, lambda: viewed(house, "hall", fits, fits, thing), house)

    def test_no_deed_is_found_before_the_errors_of_deeds(self):
        house = small_house()
        deeds = [("pace", "attic", (1, 1)), ("cancel", "none"), ("cancel",)]
        check_error(self, InvalidDeed, {"index": 2}, lambda: viewed(house, "hall", *deeds), house)

    def test_deeds_before_an_error_stay_done(self):
        house = small_house()
        house.viewpoint = "nook"
        before = ("wait", (1, 1), None)
        for wrong, error, fields in [
            (("pace", "hall", (61, 1)), InvalidPace, {"pace": (61, 1)}), (("walk", "cid", "yard"), NoPerson, {"person": "cid"}),
            (("carry", "yard", "hall"), Outermost, {"room": "yard"}), (("cancel", "none"), NoAlarm, {"name": "none"}),
            (("wait", (1, 1), "attic"), NoTimekeeper, {"name": "attic"}),
            (("wait", (1, 1), "shed"), NeverReached, {"name": "shed"}),
        ]:
            twin = house.copy()
            check_error(self, error, fields, lambda: viewed(house, "hall", before, wrong, ("cancel", "cook"), ("cancel", "no")))
            twin.wait((1, 1), by="hall")
            self.assertEqual(all_with_past(house), all_with_past(twin))
        self.assertEqual(all_of(house)[1], "nook")

    def test_a_wait_by_none_is_one_by_the_room(self):
        house = small_house()
        check_error(self, NeverReached, {"name": "shed"}, lambda: viewed(house, "shed", ("wait", (1, 1), None)), house)
        self.assertEqual(viewed(house, "nook", ("wait", (5, 6), None)), ((),))
        self.assertEqual(house.moment, (1, 1))

    def test_inside_a_block(self):
        house = House("yard")
        for name in ("hall", "nook"):
            house.build(name, "yard")
        with View(house, "hall"):
            viewed(house, "nook", ("wait", (1, 1), None))
            self.assertEqual(house.viewpoint, "hall")
        self.assertEqual(house.viewpoint, "yard")


class PlaceTest(unittest.TestCase):
    def test_defined_in_this_file(self):
        self.assertEqual((View.__module__, viewed.__module__), (views.__name__, views.__name__))
        for name in ("__init__", "__enter__", "__exit__"):
            self.assertIn(name, vars(View))


if __name__ == "__main__":
    unittest.main()
