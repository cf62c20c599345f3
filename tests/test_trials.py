"""Points [11] and [18], and the section "roompace/trials.py"."""

import random
import unittest

from roompace import trials
from roompace.errors import InvalidDeed, NeverReached, NeverShown, NoAlarm, NoTimekeeper, Outermost, TooMany
from roompace.house import House
from roompace.past import convert, forecast
from roompace.timekeepers import RoomClock, Watch
from roompace.trials import Trial, tried
from roompace.views import View, viewed
from tests.helpers import NO_DEEDS, all_with_past, check_error, small_house
from tests.model import random_deed, random_house, random_number

EVERY_DEED = [
    ("build", "loft", "hall", (2, 1), (1, 1)), ("pace", "hall", (3, 1)), ("carry", "loft", "yard"),
    ("come", "cid", "yard", (1, 2)), ("walk", "cid", "loft"), ("hang", "bell", "loft", (1, 1)),
    ("alarm", "wake", "cid", (1, 2)), ("cancel", "cook"), ("wait", (1, 1), "loft"), ("wait", (20, 1), None),
]


class Oops(Exception):
    pass


def old_house():
    """The small house with a past, from the nook."""
    house = small_house()
    house.walk("bob", "nook")
    house.wait((2, 1))
    house.set_pace("hall", (0, 1))
    house.wait((1, 1))
    house.walk("ann", "hall")
    house.viewpoint = "nook"
    return house


class TrialTest(unittest.TestCase):
    def test_as_it_was_behind_the_block(self):
        house = old_house()
        twin, before = house.copy(), all_with_past(house)
        with Trial(house):
            self.assertEqual(all_with_past(house), before)
            for deed in EVERY_DEED[:-1]:
                house.do(deed)
            house.wait((20, 1), by="yard")
            self.assertFalse(house == twin)
            self.assertNotEqual(all_with_past(house), before)
        self.assertTrue(house == twin)
        self.assertEqual(all_with_past(house), before)
        self.assertEqual(house.wait((9, 1), by="yard"), twin.wait((9, 1), by="yard"))
        self.assertEqual(all_with_past(house), all_with_past(twin))

    def test_argument_by_name(self):
        house = old_house()
        with Trial(house=house):
            house.cancel("cook")
        self.assertEqual(house.alarms(), ("cook",))

    def test_as_it_was_at_the_beginning_of_the_block(self):
        house = old_house()
        trial = Trial(house)
        house.cancel("cook")
        house.viewpoint = "shed"
        house.wait((1, 1), by="yard")
        before = all_with_past(house)
        with trial:
            house.wait((1, 1), by="yard")
            house.viewpoint = "yard"
        self.assertEqual(all_with_past(house), before)

    def test_after_an_error(self):
        house = old_house()
        before = all_with_past(house)
        with self.assertRaises(Oops):
            with Trial(house):
                house.wait((5, 1), by="yard")
                house.viewpoint = "hall"
                raise Oops()
        self.assertEqual(all_with_past(house), before)
        with self.assertRaises(Outermost) as caught:
            with Trial(house):
                house.cancel("cook")
                house.carry("yard", "hall")
        self.assertEqual(caught.exception.room, "yard")
        self.assertEqual(all_with_past(house), before)

    def test_after_a_return(self):
        house = old_house()
        before = all_with_past(house)

        def moment_after(amount):
            with Trial(house):
                house.wait(amount, by="yard")
                return house.moment

        self.assertEqual(moment_after((4, 1)), (7, 1))
        self.assertEqual(all_with_past(house), before)

    def test_one_block_inside_another(self):
        house = old_house()
        stages = [all_with_past(house)]
        with Trial(house):
            house.wait((1, 1), by="yard")
            house.viewpoint = "yard"
            stages.append(all_with_past(house))
            with Trial(house):
                house.build("loft", "yard")
                house.viewpoint = "loft"
                house.wait((2, 1))
                stages.append(all_with_past(house))
                with self.assertRaises(Oops):
                    with Trial(house):
                        house.wait((2, 1))
                        raise Oops()
                self.assertEqual(all_with_past(house), stages[2])
            self.assertEqual(all_with_past(house), stages[1])
            house.cancel("cook")
        self.assertEqual(all_with_past(house), stages[0])

    def test_one_trial_used_again_and_inside_itself(self):
        house = old_house()
        trial = Trial(house)
        for _ in range(2):
            outer = all_with_past(house)
            with trial:
                house.wait((1, 1), by="yard")
                inner = all_with_past(house)
                with trial:
                    house.wait((1, 1), by="yard")
                    house.viewpoint = "shed"
                self.assertEqual(all_with_past(house), inner)
            self.assertEqual(all_with_past(house), outer)
            house.cancel(house.alarms()[0])
            house.set_alarm("again", "yard", (50, 1))

    def test_a_viewpoint_that_is_built_in_the_block(self):
        house = small_house()
        with Trial(house):
            house.build("loft", "hall", pace=(2, 1))
            house.viewpoint = "loft"
            house.wait((3, 1))
            self.assertEqual((house.now, house.moment), ((3, 1), (3, 1)))
        self.assertEqual((house.viewpoint, house.now, house.rooms()), ("yard", (0, 1), ("hall", "nook", "shed", "yard")))

    def test_with_views(self):
        house = old_house()
        before = all_with_past(house)
        with Trial(house):
            with View(house, "hall"):
                house.wait((1, 1), by="yard")
                with Trial(house):
                    house.viewpoint = "shed"
                    viewed(house, "yard", ("wait", (1, 1), None))
                    self.assertEqual(house.viewpoint, "shed")
                self.assertEqual(house.viewpoint, "hall")
                self.assertEqual(house.moment, (4, 1))
            self.assertEqual(house.viewpoint, "nook")
        self.assertEqual(all_with_past(house), before)
        with View(house, "hall"):
            with Trial(house):
                house.viewpoint = "shed"
            self.assertEqual(house.viewpoint, "hall")
        self.assertEqual(all_with_past(house), before)

    def test_a_copy_that_is_made_inside(self):
        house = old_house()
        before = all_with_past(house)
        with Trial(house):
            house.wait((1, 1), by="yard")
            house.come("cid", "yard")
            twin = house.copy()
            inside = all_with_past(twin)
        self.assertEqual(all_with_past(twin), inside)
        twin.wait((3, 1), by="yard")
        self.assertEqual(convert(twin, (11, 2), "yard", "cid"), ((3, 2), (3, 2)))
        check_error(self, NeverShown, {"reading": (7, 2)}, lambda: convert(twin, (7, 2), "yard", "cid"))
        self.assertEqual(all_with_past(house), before)

    def test_names_are_free_again(self):
        house = old_house()
        with Trial(house):
            house.build("loft", "yard")
            house.come("cid", "loft")
            house.wait((1, 1), by="yard")
        house.come("loft", "yard")
        house.build("cid", "yard", pace=(2, 1))
        house.wait((1, 1), by="yard")
        self.assertEqual((house.timekeeper("loft").shown(), house.timekeeper("cid").shown()),
                         ("loft 1 in yard", "cid 2 at 2 in yard"))
        self.assertEqual(convert(house, (1, 2), "loft", "cid"), ((1, 1), (1, 1)))


class TimekeeperTest(unittest.TestCase):
    def test_made_inside(self):
        house = small_house()
        with Trial(house):
            house.build("loft", "hall", pace=(2, 1))
            house.come("cid", "loft")
            house.walk("ann", "hall")
            house.wait((3, 1))
            clock, watch, ann = house.timekeeper("loft"), house.timekeeper("cid"), house.timekeeper("ann")
            hall = house.timekeeper("hall")
            hall.pace = (5, 1)
            self.assertEqual([keeper.shown() for keeper in (clock, watch, ann, hall)],
                             ["loft 3 at 2 in hall", "cid 3 in loft", "ann 3 in hall", "hall 3/2 at 5 in yard"])
        self.assertEqual([ann.shown(), hall.shown()], ["ann 0 in yard", "hall 0 at 1/2 in yard"])
        self.assertEqual((ann.time, ann.rate, ann.goal, ann.place), ((0, 1), (1, 1), None, "yard"))
        for keeper, name in ((clock, "loft"), (watch, "cid")):
            for item in ("label", "time", "rate"):
                check_error(self, NoTimekeeper, {"name": name}, lambda: getattr(keeper, item), house)
            check_error(self, NoTimekeeper, {"name": name}, keeper.shown, house)
        check_error(self, NoTimekeeper, {"name": "loft"}, lambda: setattr(clock, "pace", (1, 1)), house)

    def test_told_again_if_it_comes_to_exist_again(self):
        house = small_house()
        with Trial(house):
            house.build("loft", "hall")
            house.come("cid", "loft")
            clock, watch = house.timekeeper("loft"), house.timekeeper("cid")
        house.come("loft", "yard")
        check_error(self, NoTimekeeper, {"name": "loft"}, clock.shown, house)
        house.come("cid", "yard", factor=(2, 1))
        house.wait((1, 1))
        self.assertEqual(watch.shown(), "cid 2 in yard")

    def test_made_before(self):
        house = small_house()
        hall, bob = house.timekeeper("hall"), house.timekeeper("bob")
        loft, cid = RoomClock(house, "loft"), Watch(house, "cid")
        house.walk("bob", "nook")
        with Trial(house):
            house.wait((1, 1))
            house.carry("hall", "shed")
            house.build("loft", "hall")
            house.come("cid", "loft")
            self.assertEqual([keeper.shown() for keeper in (hall, bob, loft, cid)], [
                "hall 1/2 at 1/2 in shed", "bob 4/3 in nook", "loft 0 at 1 in hall", "cid 0 in loft"])
        self.assertEqual([hall.shown(), bob.shown()], ["hall 0 at 1/2 in yard", "bob 0 in hall"])
        self.assertEqual((bob.goal, hall.around), ("nook", "yard"))
        check_error(self, NoTimekeeper, {"name": "loft"}, loft.shown, house)
        check_error(self, NoTimekeeper, {"name": "cid"}, cid.shown, house)
        with Trial(house):
            hall.pace = (7, 1)
            self.assertEqual(house.timekeeper("hall").pace, (7, 1))
        self.assertEqual(hall.pace, (1, 2))


class TriedTest(unittest.TestCase):
    def test_example(self):
        house = House("yard")
        told = tried(house, ("hang", "gong", "yard", (2, 1)), ("wait", (3, 1), None))
        self.assertEqual(told, (None, (((2, 1), "stroke", "gong", "yard"),)))
        self.assertEqual([house.now, house.bells()], [(0, 1), ()])

    def test_every_deed(self):
        house = small_house()
        twin, before = house.copy(), all_with_past(house)
        expected = tuple([twin.do(deed) for deed in EVERY_DEED])
        for _ in range(2):
            told = tried(house, *EVERY_DEED)
            self.assertEqual(told, expected)
            self.assertIs(told.__class__, tuple)
            self.assertEqual(all_with_past(house), before)

    def test_no_deeds(self):
        house = old_house()
        before = all_with_past(house)
        self.assertEqual(tried(house), ())
        self.assertEqual(all_with_past(house), before)

    def test_conversions_and_forecasts_behind_it(self):
        house = House("yard")
        house.build("hall", "yard", pace=(2, 1))
        house.wait((3, 1))
        tried(house, ("pace", "hall", (0, 1)), ("wait", (4, 1), None))
        self.assertEqual(convert(house, (6, 1), "hall", "yard"), ((3, 1), (3, 1)))
        check_error(self, NeverShown, {"reading": (7, 2)}, lambda: convert(house, (7, 2), "yard", "hall"), house)
        self.assertEqual(forecast(house, (8, 1), "hall", "yard"), (4, 1))
        house.wait((1, 1))
        self.assertEqual(convert(house, (7, 2), "yard", "hall"), ((7, 1), (7, 1)))

    def test_objects_that_are_no_deeds(self):
        house = old_house()
        before = all_with_past(house)
        fits, wrong = ("cancel", "cook"), ("pace", "attic", (1, 1))
        for thing in NO_DEEDS:
            check_error(self, InvalidDeed, {"index": 0}, lambda: tried(house, thing), house)
            check_error(self, InvalidDeed, {"index": 1}, lambda: tried(house, fits, thing, None), house)
            check_error(self, InvalidDeed, {"index": 2}, lambda: tried(house, wrong, wrong, thing), house)
        self.assertEqual(all_with_past(house), before)

    def test_the_first_error_of_a_deed(self):
        house = old_house()
        before = all_with_past(house)
        first = [("wait", (1, 1), "yard"), ("cancel", "cook"), ("build", "loft", "yard", (1, 1), (1, 1))]
        check_error(self, NoAlarm, {"name": "cook"}, lambda: tried(house, *first, ("cancel", "cook"), ("cancel", "no")), house)
        check_error(self, NeverReached, {"name": "hall"}, lambda: tried(house, *first, ("wait", (1, 1), "hall")), house)
        check_error(self, TooMany, {"limit": 500}, lambda: tried(
            house, *first, ("hang", "bell", "yard", (1, 999)), ("wait", (1, 1), "yard")), house)
        self.assertEqual(all_with_past(house), before)

    def test_random_houses(self):
        chance = random.Random(51)
        for _ in range(60):
            house = random_house(chance)
            before = all_with_past(house)
            twin = house.copy()
            deeds, answers = [], []
            while len(deeds) < 12:
                deed = random_deed(chance, twin)
                if chance.random() < 0.3:
                    deed = ("wait", random_number(chance, 9), chance.choice((None,) + twin.rooms() + twin.people()))
                try:
                    answers.append(twin.do(deed))
                except (ValueError, RuntimeError, LookupError):
                    continue
                deeds.append(deed)
            self.assertEqual(tried(house, *deeds), tuple(answers))
            self.assertEqual(all_with_past(house), before)


class PlaceTest(unittest.TestCase):
    def test_defined_in_this_file(self):
        self.assertEqual((Trial.__module__, tried.__module__), (trials.__name__, trials.__name__))
        for name in ("__init__", "__enter__", "__exit__"):
            self.assertIn(name, vars(Trial))


if __name__ == "__main__":
    unittest.main()
