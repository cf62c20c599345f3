"""Points [7], [8], [15] and [18], and the section "roompace/past.py"."""

import random
import unittest
from fractions import Fraction

from roompace import past
from roompace.errors import InvalidReading, NeverReached, NeverShown, NoTimekeeper
from roompace.house import House
from roompace.lines import state_text
from roompace.numbers import compare, number, subtract
from roompace.past import convert, forecast
from roompace.trials import Trial, tried
from tests.helpers import NO_NUMBERS, NO_TIMEKEEPERS, all_of, all_with_past, check_error, small_house
from tests.model import pair, random_house, random_life, random_number


def twice(reading):
    return (reading, reading)


def stopped_house():
    """A hall that ran with 1/2 for 4 moments, stood still for 3, and ran with 2 for 1; a person came at 2."""
    house = House("yard")
    house.build("hall", "yard", pace=(1, 2))
    house.wait((2, 1))
    house.come("ann", "hall", factor=(3, 1))
    house.wait((2, 1))
    house.set_pace("hall", (0, 1))
    house.wait((3, 1))
    house.set_pace("hall", (2, 1))
    house.wait((1, 1))
    return house


class ConvertTest(unittest.TestCase):
    def check(self, house, of, to, rows):
        for reading, expected in rows:
            self.assertEqual(convert(house, reading, of, to), expected, (reading, of, to))

    def check_never(self, house, of, to, readings):
        for reading in readings:
            check_error(self, NeverShown, {"reading": reading}, lambda: convert(house, reading, of, to), house)

    def test_example(self):
        house = House("yard")
        house.build("hall", "yard", pace=(0, 1))
        self.assertEqual(house.wait((4, 1)), ())
        self.assertEqual(convert(house, (0, 1), "hall", "yard"), ((0, 1), (4, 1)))
        self.assertEqual(convert(house=house, reading=(0, 1), of="hall", to="yard"), ((0, 1), (4, 1)))

    def test_new_house(self):
        house = small_house()
        for of in house.rooms() + house.people():
            for to in house.rooms() + house.people():
                self.check(house, of, to, [((0, 1), twice((0, 1)))])
                self.check_never(house, of, to, [(1, 10 ** 9), (-1, 10 ** 9)])

    def test_at_changes_between_them_and_at_the_present(self):
        house = stopped_house()
        self.check(house, "yard", "hall", [
            ((0, 1), twice((0, 1))), ((1, 1), twice((1, 2))), ((2, 1), twice((1, 1))), ((7, 2), twice((7, 4))),
            ((4, 1), twice((2, 1))), ((5, 1), twice((2, 1))), ((7, 1), twice((2, 1))), ((29, 4), twice((5, 2))),
            ((8, 1), twice((4, 1))),
        ])
        self.check_never(house, "yard", "hall", [(8 * 10 ** 9 + 1, 10 ** 9), (9, 1), (-1, 1), (-1, 10 ** 400)])

    def test_a_room_that_stood_still_and_ran_again(self):
        house = stopped_house()
        self.check(house, "hall", "yard", [
            ((0, 1), twice((0, 1))), ((1, 2), twice((1, 1))), ((7, 4), twice((7, 2))), ((2, 1), ((4, 1), (7, 1))),
            ((3, 1), twice((15, 2))), ((4, 1), twice((8, 1))),
        ])
        self.check_never(house, "hall", "yard", [(41, 10), (-1, 3)])

    def test_a_person_who_stood_still_and_ran_again(self):
        house = stopped_house()
        # Ann came when the yard showed 2 and the hall 1.
        self.check(house, "ann", "yard", [
            ((0, 1), twice((2, 1))), ((3, 2), twice((3, 1))), ((3, 1), ((4, 1), (7, 1))), ((6, 1), twice((15, 2))),
            ((9, 1), twice((8, 1))),
        ])
        self.check(house, "ann", "hall", [((0, 1), twice((1, 1))), ((3, 1), twice((2, 1))), ((9, 1), twice((4, 1)))])
        self.check(house, "hall", "ann", [((1, 1), twice((0, 1))), ((2, 1), twice((3, 1))), ((5, 2), twice((9, 2)))])
        self.check(house, "yard", "ann", [((2, 1), twice((0, 1))), ((6, 1), twice((3, 1)))])
        # What the yard and the hall showed before does not count.
        self.check_never(house, "yard", "ann", [(0, 1), (19, 10), (81, 10)])
        self.check_never(house, "hall", "ann", [(0, 1), (9, 10)])
        self.check_never(house, "ann", "yard", [(91, 10), (-1, 1)])

    def test_with_itself(self):
        house = stopped_house()
        for name, last in (("yard", (8, 1)), ("hall", (4, 1)), ("ann", (9, 1))):
            self.check(house, name, name, [(reading, twice(reading)) for reading in ((0, 1), (1, 3), (2, 1), last)])
            self.check_never(house, name, name, [(10, 1), (-1, 1)])

    def test_who_came_to_exist_at_different_moments(self):
        house = House("yard")
        house.build("hall", "yard", pace=(0, 1))
        house.wait((1, 1))
        house.come("ann", "yard")
        house.wait((1, 1))
        house.build("loft", "yard", pace=(3, 1))
        self.check(house, "loft", "ann", [((0, 1), twice((1, 1)))])
        self.check(house, "ann", "loft", [((1, 1), twice((0, 1)))])
        self.check_never(house, "ann", "loft", [(0, 1), (1, 2)])
        house.wait((1, 1))
        house.come("bob", "loft", factor=(1, 2))
        house.wait((2, 1))
        # The hall shows 0 at all moments, but beside each other one only since it exists.
        self.check(house, "hall", "yard", [((0, 1), ((0, 1), (5, 1)))])
        self.check(house, "hall", "ann", [((0, 1), ((0, 1), (4, 1)))])
        self.check(house, "hall", "loft", [((0, 1), ((0, 1), (9, 1)))])
        self.check(house, "hall", "bob", [((0, 1), ((0, 1), (3, 1)))])
        self.check(house, "loft", "bob", [((3, 1), twice((0, 1))), ((6, 1), twice((3, 2)))])
        self.check_never(house, "loft", "bob", [(0, 1), (29, 10)])
        self.check(house, "yard", "loft", [((2, 1), twice((0, 1))), ((5, 2), twice((3, 2)))])
        self.check_never(house, "yard", "loft", [(1, 1), (19, 10)])

    def test_beside_one_that_came_while_a_room_stood_still(self):
        house = House("yard")
        house.build("hall", "yard")
        house.wait((2, 1))
        house.set_pace("hall", (0, 1))
        house.wait((2, 1))
        house.come("ann", "yard")
        house.wait((3, 1))
        house.set_pace("hall", (1, 1))
        house.wait((1, 1))
        self.check(house, "hall", "yard", [((2, 1), ((2, 1), (7, 1)))])
        self.check(house, "hall", "ann", [((2, 1), ((0, 1), (3, 1))), ((3, 1), twice((4, 1)))])
        self.check_never(house, "hall", "ann", [(1, 1)])

    def test_arrivals_inside_a_wait(self):
        house = House("yard")
        house.build("hall", "yard", pace=(3, 1), way=(2, 1))
        house.build("shed", "yard", pace=(0, 1), way=(5, 1))
        for person, goal in (("ann", "hall"), ("bob", "shed"), ("cid", "hall")):
            house.come(person, "yard")
            house.walk(person, goal)
        house.wait((10, 1))
        self.check(house, "yard", "ann", [
            ((1, 1), twice((1, 1))), ((2, 1), twice((2, 1))), ((3, 1), twice((5, 1))), ((10, 1), twice((26, 1)))])
        self.check(house, "ann", "yard", [
            ((1, 1), twice((1, 1))), ((2, 1), twice((2, 1))), ((7, 2), twice((5, 2))), ((26, 1), twice((10, 1)))])
        self.check(house, "bob", "yard", [((9, 2), twice((9, 2))), ((5, 1), ((5, 1), (10, 1)))])
        self.check(house, "bob", "ann", [((2, 1), twice((2, 1))), ((3, 1), twice((5, 1))), ((5, 1), ((11, 1), (26, 1)))])
        self.check(house, "ann", "bob", [((5, 1), twice((3, 1))), ((11, 1), twice((5, 1))), ((20, 1), twice((5, 1)))])
        self.check(house, "ann", "cid", [((7, 2), twice((7, 2)))])

    def test_an_arrival_at_the_end_of_a_wait(self):
        house = House("yard")
        house.build("hall", "yard", pace=(3, 1), way=(2, 1))
        house.come("ann", "yard")
        house.walk("ann", "hall")
        house.wait((2, 1))
        house.wait((1, 1))
        self.check(house, "ann", "yard", [((2, 1), twice((2, 1))), ((5, 1), twice((3, 1))), ((7, 2), twice((5, 2)))])

    def test_alarms_strokes_and_the_viewpoint_change_nothing(self):
        house = stopped_house()
        twin = stopped_house()
        for each in (house, twin):
            each.set_pace("hall", (1, 3))
        twin.hang("gong", "hall", step=(1, 9))
        twin.set_alarm("cook", "hall", (5, 1))
        twin.viewpoint = "hall"
        for each in (house, twin):
            each.wait((4, 1), by="yard")
        for reading in ((8, 1), (9, 1), (11, 1), (12, 1)):
            expected = convert(house, reading, "yard", "hall")
            self.assertEqual(convert(twin, reading, "yard", "hall"), expected)
        self.check(twin, "hall", "yard", [((5, 1), twice((11, 1)))])

    def test_a_room_that_was_carried(self):
        house = House("yard")
        house.build("hall", "yard", pace=(1, 2))
        house.build("shed", "yard", pace=(0, 1))
        house.build("nook", "hall", pace=(4, 1))
        house.come("ann", "nook")
        house.wait((1, 1))
        house.carry("nook", "shed")
        house.wait((2, 1))
        house.carry("nook", "yard")
        house.wait((1, 1))
        for name in ("nook", "ann"):
            self.check(house, name, "yard", [
                ((1, 1), twice((1, 2))), ((2, 1), ((1, 1), (3, 1))), ((4, 1), twice((7, 2))), ((6, 1), twice((4, 1)))])
            self.check(house, "yard", name, [((1, 2), twice((1, 1))), ((2, 1), twice((2, 1))), ((7, 2), twice((4, 1)))])
        self.check(house, "nook", "hall", [((2, 1), ((1, 2), (3, 2)))])

    def test_paces_that_changed_several_times_at_one_moment(self):
        house = House("yard")
        house.build("hall", "yard", pace=(2, 1))
        house.wait((1, 1))
        for pace in ((0, 1), (5, 1), (60, 1), (1, 2)):
            house.set_pace("hall", pace)
        house.set_paces(hall=(0, 1))
        house.timekeeper("hall").pace = (1, 2)
        house.wait((2, 1))
        house.set_pace("hall", (7, 1))
        house.set_pace("hall", (1, 2))
        house.wait((2, 1))
        self.check(house, "hall", "yard", [
            ((1, 1), twice((1, 2))), ((2, 1), twice((1, 1))), ((5, 2), twice((2, 1))), ((3, 1), twice((3, 1))),
            ((7, 2), twice((4, 1))), ((4, 1), twice((5, 1)))])
        house.set_pace("hall", (60, 1))
        self.check(house, "hall", "yard", [((4, 1), twice((5, 1)))])
        self.check_never(house, "hall", "yard", [(41, 10)])

    def test_both_stood_still(self):
        house = House("yard")
        house.build("hall", "yard")
        house.build("nook", "hall")
        house.wait((1, 1))
        house.set_pace("nook", (0, 1))
        house.wait((1, 1))
        house.set_pace("hall", (0, 1))
        house.set_pace("nook", (1, 1))
        house.wait((1, 1))
        house.set_pace("hall", (1, 1))
        house.wait((1, 1))
        self.check(house, "nook", "hall", [((1, 1), ((1, 1), (2, 1))), ((2, 1), twice((3, 1)))])
        self.check(house, "hall", "nook", [((2, 1), twice((1, 1))), ((3, 2), twice((1, 1)))])
        self.check(house, "nook", "yard", [((1, 1), ((1, 1), (3, 1)))])

    def test_there_and_back(self):
        house = stopped_house()
        names = ("yard", "hall", "ann")
        for of in names:
            for to in names:
                for part in range(0, 33):
                    try:
                        low, high = convert(house, number(part, 4), of, to)
                    except NeverShown:
                        continue
                    for reading in (low, high):
                        least, greatest = convert(house, reading, to, of)
                        self.assertTrue(compare(least, number(part, 4)) <= 0 <= compare(greatest, number(part, 4)))


class PastTest(unittest.TestCase):
    def test_behind_a_trial(self):
        house = stopped_house()
        before = all_with_past(house)
        tried(house, ("wait", (9, 1), None), ("pace", "hall", (0, 1)), ("wait", (9, 1), None))
        self.assertEqual(all_with_past(house), before)
        check_error(self, NeverShown, {"reading": (9, 1)}, lambda: convert(house, (9, 1), "yard", "hall"), house)
        with Trial(house):
            house.wait((1, 1))
            self.assertEqual(convert(house, (9, 1), "yard", "hall"), twice((6, 1)))
            self.assertEqual(convert(house, (2, 1), "hall", "yard"), ((4, 1), (7, 1)))
        house.set_pace("hall", (1, 1))
        house.wait((1, 1))
        self.assertEqual(convert(house, (9, 1), "yard", "hall"), twice((5, 1)))
        self.assertEqual(convert(house, (2, 1), "hall", "yard"), ((4, 1), (7, 1)))

    def test_of_a_copy_that_is_led_on(self):
        house = stopped_house()
        twin = house.copy()
        before = all_with_past(house)
        self.assertEqual(all_with_past(twin), before)
        twin.viewpoint = "hall"
        twin.set_pace("hall", (0, 1))
        twin.wait((5, 1), by="yard")
        twin.come("bob", "hall")
        twin.wait((1, 1), by="yard")
        self.assertEqual(all_with_past(house), before)
        self.assertEqual(convert(twin, (4, 1), "hall", "yard"), ((8, 1), (14, 1)))
        self.assertEqual(convert(twin, (0, 1), "bob", "yard"), ((13, 1), (14, 1)))
        self.assertEqual(convert(twin, (2, 1), "hall", "yard"), ((4, 1), (7, 1)))
        led_on = all_with_past(twin)
        house.wait((3, 1))
        self.assertEqual(all_with_past(twin), led_on)
        self.assertEqual(convert(house, (9, 1), "yard", "hall"), twice((6, 1)))

    def test_of_a_house_that_was_read(self):
        house = House.read(state_text(stopped_house().state))
        self.assertEqual(convert(house, (4, 1), "hall", "yard"), twice((8, 1)))
        self.assertEqual(convert(house, (9, 1), "ann", "hall"), twice((4, 1)))
        for reading in ((0, 1), (2, 1), (39, 10), (41, 10)):
            check_error(self, NeverShown, {"reading": reading}, lambda: convert(house, reading, "hall", "yard"), house)
        house.set_pace("hall", (0, 1))
        house.wait((1, 1))
        house.set_pace("hall", (1, 1))
        house.wait((1, 1))
        self.assertEqual(convert(house, (4, 1), "hall", "yard"), ((8, 1), (9, 1)))
        self.assertEqual(convert(house, (9, 2), "hall", "yard"), twice((19, 2)))
        check_error(self, NeverShown, {"reading": (79, 10)}, lambda: convert(house, (79, 10), "yard", "hall"), house)

    def test_a_walk_of_a_house_that_was_read(self):
        house = House.read("house yard 5\nroom hall yard 2 3 1\nperson ann yard 1 0 to hall 13/2")
        house.wait((3, 1))
        self.assertEqual(convert(house, (3, 2), "ann", "yard"), twice((13, 2)))
        self.assertEqual(convert(house, (5, 2), "ann", "yard"), twice((7, 1)))
        self.assertEqual(convert(house, (1, 1), "hall", "ann"), twice((0, 1)))

    def test_a_wait_that_raises_an_error_leaves_no_past(self):
        house = stopped_house()
        before = all_with_past(house)
        for amount, by in (((0, 1), None), ((1, 1), "attic"), ((10 ** 400, 1), None)):
            with self.assertRaises((ValueError, LookupError, RuntimeError)):
                house.wait(amount, by=by)
            self.assertEqual(all_with_past(house), before)

    def test_long_past(self):
        house = House("yard")
        house.build("hall", "yard")
        for k in range(400):
            house.set_pace("hall", (k // 2 * 2 % 60, 1) if k % 2 else (0, 1))
            house.wait((1, 3))
        total = sum([Fraction(k // 2 * 2 % 60, 3) for k in range(1, 400, 2)])
        self.assertEqual(house.timekeeper("hall").time, pair(total))
        # Up to 2 the hall ran with 2 and with 4, for 1/3 each; from 2 to 7/3 it stood still.
        self.assertEqual(convert(house, (2, 1), "hall", "yard"), ((2, 1), (7, 3)))
        self.assertEqual(convert(house, (2, 1), "yard", "hall"), twice((2, 1)))

    def test_a_wait_cut_into_two(self):
        chance = random.Random(61)
        for _ in range(25):
            house = random_house(chance)
            amount, share = random_number(chance, 12), chance.choice([(1, 2), (1, 3), (6, 7)])
            whole, cut = house.copy(), house.copy()
            try:
                whole.wait(amount, by="yard")
            except RuntimeError:
                continue
            first = pair(Fraction(*amount) * Fraction(*share))
            cut.wait(first, by="yard")
            cut.wait(subtract(amount, first), by="yard")
            self.assertEqual(all_with_past(cut), all_with_past(whole))

    def test_random_houses_and_their_diaries(self):
        chance = random.Random(62)
        intervals = 0
        for _ in range(25):
            house, diary = random_life(chance)
            names = house.rooms() + house.people()
            for of in names:
                shown = sorted({reading for _, reading in diary.tracks[of]})
                middles = [(first + last) / 2 for first, last in zip(shown, shown[1:])]
                readings = chance.sample(shown + middles, min(4, len(shown + middles)))
                for reading in readings + [shown[-1], shown[-1] + Fraction(1, 9), Fraction(-1, 9)]:
                    for to in names:
                        expected = diary.convert(reading, of, to)
                        if expected is None:
                            check_error(self, NeverShown, {"reading": pair(reading)},
                                        lambda: convert(house, pair(reading), of, to))
                        else:
                            self.assertEqual(convert(house, pair(reading), of, to), expected)
                            intervals += expected[0] != expected[1]
        self.assertGreater(intervals, 20)

    def test_facts_of_conversions(self):
        chance = random.Random(63)
        for _ in range(15):
            house, diary = random_life(chance)
            names = house.rooms() + house.people()
            for of in names:
                readings = sorted({reading for _, reading in diary.tracks[of]})
                for to in names:
                    last = None
                    for reading in readings:
                        try:
                            least, greatest = convert(house, pair(reading), of, to)
                        except NeverShown:
                            continue
                        self.assertLessEqual(compare(least, greatest), 0)
                        if last is not None:
                            self.assertLessEqual(compare(last, least), 0)
                        last = greatest
                    self.assertEqual(last, house.timekeeper(to).time)


class ConvertErrorTest(unittest.TestCase):
    def test_errors_in_their_order(self):
        house = stopped_house()
        house.hang("gong", "yard", step=(100, 1))
        house.set_alarm("cook", "yard", (100, 1))
        before = all_with_past(house)
        for of in NO_TIMEKEEPERS:
            for to, reading in (("yard", (0, 1)), ("attic", (0, 1)), (None, "0"), ("yard", (99, 1)), ("yard", None)):
                check_error(self, NoTimekeeper, {"name": of}, lambda: convert(house, reading, of, to), house)
        for to in NO_TIMEKEEPERS:
            for reading in ((0, 1), None, (99, 1)):
                check_error(self, NoTimekeeper, {"name": to}, lambda: convert(house, reading, "ann", to), house)
        for reading in NO_NUMBERS:
            check_error(self, InvalidReading, {"reading": reading}, lambda: convert(house, reading, "ann", "hall"), house)
        for reading in ((-1, 1), (10 ** 400, 1), (91, 10)):
            check_error(self, NeverShown, {"reading": reading}, lambda: convert(house, reading, "ann", "hall"), house)
        self.assertEqual(all_with_past(house), before)


class ForecastTest(unittest.TestCase):
    def check(self, house, of, to, rows):
        before = all_with_past(house)
        for reading, expected in rows:
            self.assertEqual(forecast(house, reading, of, to), expected, (reading, of, to))
        self.assertEqual(all_with_past(house), before)

    def test_rooms(self):
        house = stopped_house()
        self.check(house, "yard", "hall", [((8, 1), (4, 1)), ((17, 2), (5, 1)), ((10 ** 30, 1), (2 * 10 ** 30 - 12, 1))])
        self.check(house, "hall", "yard", [((4, 1), (8, 1)), ((5, 1), (17, 2))])
        self.check(house, "ann", "yard", [((9, 1), (8, 1)), ((10, 1), (49, 6))])
        self.check(house, "hall", "hall", [((4, 1), (4, 1)), ((14, 3), (14, 3))])
        self.assertEqual(forecast(house=house, reading=(5, 1), of="hall", to="yard"), (17, 2))

    def test_the_present_of_who_stands_still(self):
        house = stopped_house()
        house.set_pace("hall", (0, 1))
        self.check(house, "hall", "yard", [((4, 1), (8, 1))])
        self.check(house, "ann", "yard", [((9, 1), (8, 1))])
        self.check(house, "yard", "hall", [((8, 1), (4, 1)), ((100, 1), (4, 1))])
        # Only the readings from now on count: the hall stood still at its reading before, too.
        house.wait((5, 1))
        self.check(house, "hall", "yard", [((4, 1), (13, 1))])

    def test_before_and_behind_an_arrival(self):
        house = House("yard")
        house.build("hall", "yard", pace=(3, 1), way=(2, 1))
        house.come("ann", "yard", factor=(2, 1))
        house.wait((1, 1))
        house.walk("ann", "hall")
        # Ann shows 2 now, 6 at her arrival when the yard shows 3, and grows by 6 in a moment then.
        self.check(house, "ann", "yard", [
            ((2, 1), (1, 1)), ((4, 1), (2, 1)), ((6, 1), (3, 1)), ((9, 1), (7, 2)), ((12, 1), (4, 1))])
        self.check(house, "yard", "ann", [((2, 1), (4, 1)), ((3, 1), (6, 1)), ((4, 1), (12, 1))])
        self.check(house, "hall", "ann", [((3, 1), (2, 1)), ((9, 1), (6, 1)), ((12, 1), (12, 1))])
        house.come("bob", "hall", factor=(1, 3))
        house.walk("bob", "yard")
        # Bob arrives after 2/3 of a moment, and then grows by 1/3 in a moment.
        self.check(house, "bob", "ann", [((1, 3), (8, 3)), ((2, 3), (10, 3)), ((1, 1), (16, 3)), ((4, 3), (10, 1))])

    def test_who_will_arrive_in_a_room_that_stands_still(self):
        house = House("yard")
        house.build("hall", "yard", pace=(0, 1), way=(2, 1))
        house.come("ann", "yard", factor=(3, 1))
        house.walk("ann", "hall")
        self.check(house, "ann", "yard", [((0, 1), (0, 1)), ((3, 1), (1, 1)), ((6, 1), (2, 1))])
        self.check(house, "yard", "ann", [((2, 1), (6, 1)), ((50, 1), (6, 1))])
        for reading in ((6 * 10 ** 9 + 1, 10 ** 9), (7, 1)):
            check_error(self, NeverReached, {"name": "ann"}, lambda: forecast(house, reading, "ann", "yard"), house)
        house.come("bob", "hall")
        house.walk("bob", "yard")
        check_error(self, NeverReached, {"name": "bob"}, lambda: forecast(house, (1, 1), "bob", "yard"), house)
        self.check(house, "yard", "bob", [((50, 1), (0, 1))])

    def test_bells_and_alarms_set_no_limit(self):
        house = House("yard")
        house.hang("gong", "yard", step=(1, 999))
        self.check(house, "yard", "yard", [((10 ** 390, 1), (10 ** 390, 1)), ((10 ** 400 - 1, 1), (10 ** 400 - 1, 1))])

    def test_errors_in_their_order(self):
        house = stopped_house()
        house.hang("gong", "yard", step=(100, 1))
        house.set_alarm("cook", "yard", (100, 1))
        house.set_pace("hall", (0, 1))
        before = all_with_past(house)
        for of in NO_TIMEKEEPERS:
            for to, reading in (("yard", (9, 1)), ("attic", (9, 1)), (None, "0"), ("yard", None)):
                check_error(self, NoTimekeeper, {"name": of}, lambda: forecast(house, reading, of, to), house)
        for to in NO_TIMEKEEPERS:
            for reading in ((9, 1), None, (0, 1)):
                check_error(self, NoTimekeeper, {"name": to}, lambda: forecast(house, reading, "ann", to), house)
        for reading in NO_NUMBERS + [(-1, 1), (0, 1), (8, 1), (9 * 10 ** 9 - 1, 10 ** 9)]:
            check_error(self, InvalidReading, {"reading": reading}, lambda: forecast(house, reading, "ann", "yard"), house)
        for of, reading in (("ann", (10, 1)), ("hall", (9, 2))):
            check_error(self, NeverReached, {"name": of}, lambda: forecast(house, reading, of, "yard"), house)
        self.assertEqual(all_with_past(house), before)

    def test_it_comes_true_by_a_wait(self):
        chance = random.Random(71)
        true = never = 0
        while true < 150:
            house = random_house(chance)
            names = house.rooms() + house.people()
            of, to, growth = chance.choice(names), chance.choice(names), random_number(chance, 12)
            reading = pair(Fraction(*house.timekeeper(of).time) + Fraction(*growth))
            twin = house.copy()
            try:
                twin.wait(growth, by=of)
            except NeverReached:
                never += 1
                check_error(self, NeverReached, {"name": of}, lambda: forecast(house, reading, of, to), house)
                continue
            except RuntimeError:
                continue
            true += 1
            before = all_of(house)
            self.assertEqual(forecast(house, reading, of, to), twin.timekeeper(to).time)
            self.assertEqual(all_of(house), before)
            least, greatest = convert(twin, reading, of, to)
            self.assertEqual(least, twin.timekeeper(to).time)
            self.assertEqual(least, greatest)
        self.assertGreater(never, 10)


class PlaceTest(unittest.TestCase):
    def test_defined_in_this_file(self):
        self.assertEqual((convert.__module__, forecast.__module__), (past.__name__, past.__name__))


if __name__ == "__main__":
    unittest.main()
