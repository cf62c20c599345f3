"""Points [4], [6] to [8] and [22], and the section "roompace/trips.py"."""

import random
import unittest
from fractions import Fraction

from roompace import trips as module
from roompace.errors import InvalidReading, NoPerson, NoRoom, StandsStill, TooLate, Walking
from roompace.house import House
from roompace.texts import house_text
from roompace.trials import Trial
from roompace.trips import oldest, trips, youngest
from tests.helpers import NO_NAMES, NO_NUMBERS, NO_PEOPLE, all_with_past, check_error, read, small_house
from tests.model import Model, pair, random_house, random_number

NO_ROOMS = NO_NAMES + ["attic", "ann", "gong", "cook"]


def mill():
    """A fast hall with a slow nook in it, a shed that stands still with a running room in it; Ann and Bob."""
    return read(
        "house yard 5", "room hall yard 3 4 1", "room nook hall 1/6 1 0", "room shed yard 0 2 0", "room tool shed 2 1 0",
        "person ann yard 2 7", "person bob nook 1 0", "person cid yard 1 0 to hall 6", "person eve shed 1 0",
        "bell gong hall 1", "alarm cook yard 100",
    )


class ExampleTest(unittest.TestCase):
    def test_example(self):
        house = House("yard")
        house.build("hall", "yard", pace=(3, 1), way=(4, 1))
        house.come("ann", "yard")
        self.assertEqual(oldest(house, "ann", "yard", "yard", (10, 1)), ((22, 1), "hall", ("yard", "hall", "yard")))
        self.assertEqual(oldest(house, "ann", "yard", "yard", (5, 1)), ((5, 1), "yard", ("yard",)))
        self.assertEqual(youngest(house, "ann", "yard", "yard", (10, 1)), ((10, 1), "yard", ("yard",)))
        # To the hall and back takes 4 + 4/3 moments.
        self.assertEqual(trips(house, "ann", "yard", "yard", (10, 1)), (("hall", (22, 1)), ("yard", (10, 1))))
        self.assertEqual(trips(house, "ann", "yard", "yard", (5, 1)), (("hall", None), ("yard", (5, 1))))
        self.assertEqual(trips(house, "ann", "yard", "yard", (16, 3)), (("hall", (8, 1)), ("yard", (16, 3))))

    def test_by_name(self):
        house = mill()
        given = {"reading": (50, 1), "clock": "yard", "goal": "nook", "person": "ann", "house": house}
        for function in (trips, oldest, youngest):
            self.assertEqual(function(**given), function(house, "ann", "nook", "yard", (50, 1)))


class TripsTest(unittest.TestCase):
    def check(self, house, given, expected):
        before = all_with_past(house)
        self.assertEqual(trips(house, *given), expected)
        self.assertEqual(all_with_past(house), before)

    def test_by_hand(self):
        house = mill()
        # Rates: yard 1, hall 3, nook 1/2, shed 0, tool 0. From the yard to the nook: 4 + 1/3 moments, 5 by the clocks.
        self.check(house, ("ann", "nook", "yard", (15, 1)), (
            ("hall", (44, 1)), ("nook", (47, 3)), ("shed", None), ("tool", None), ("yard", (64, 3))))
        self.check(house, ("ann", "nook", "yard", (28, 3)), (
            ("hall", (10, 1)), ("nook", (10, 1)), ("shed", None), ("tool", None), ("yard", (10, 1))))
        self.check(house, ("ann", "nook", "yard", (9, 1)), tuple((room, None) for room in house.rooms()))
        # By the clock of the hall, which shows 1, 16 is 5 moments from now.
        self.check(house, ("ann", "yard", "hall", (16, 1)), (
            ("hall", None), ("nook", None), ("shed", None), ("tool", None), ("yard", (10, 1))))
        # Bob needs 2 moments to the hall and 4/3 to the yard.
        self.check(house, ("bob", "yard", "nook", (2, 1)), (
            ("hall", (7, 1)), ("nook", (16, 3)), ("shed", None), ("tool", None), ("yard", (17, 3))))

    def test_into_a_room_that_stands_still(self):
        house = mill()
        # The shed may be the goal, with the stay in it, but nobody leaves it.
        self.check(house, ("ann", "shed", "yard", (15, 1)), (
            ("hall", (36, 1)), ("nook", (73, 3)), ("shed", (4, 1)), ("tool", None), ("yard", (20, 1))))
        self.check(house, ("eve", "shed", "yard", (15, 1)), (
            ("hall", None), ("nook", None), ("shed", (0, 1)), ("tool", None), ("yard", None)))
        self.check(house, ("eve", "yard", "yard", (15, 1)), tuple((room, None) for room in house.rooms()))
        self.check(house, ("ann", "tool", "yard", (10 ** 30, 1)), tuple((room, None) for room in house.rooms()))
        self.assertEqual(youngest(house, "ann", "shed", "yard", (15, 1)), ((4, 1), "shed", ("yard", "shed")))
        self.assertEqual(oldest(house, "eve", "shed", "yard", (15, 1)), ((0, 1), "shed", ("shed",)))

    def test_nobody_has_to_walk(self):
        house = mill()
        self.check(house, ("ann", "yard", "yard", (5, 1)), (
            ("hall", None), ("nook", None), ("shed", None), ("tool", None), ("yard", (0, 1))))
        for function in (oldest, youngest):
            self.assertEqual(function(house, "ann", "yard", "yard", (5, 1)), ((0, 1), "yard", ("yard",)))
            self.assertEqual(function(house, "bob", "nook", "hall", (1, 1)), ((0, 1), "nook", ("nook",)))
            self.assertEqual(function(House.read("house a 0\nperson b a 3 1"), "b", "a", "a", (7, 2)), ((21, 2), "a", ("a",)))

    def test_ways_and_ties(self):
        house = read("house yard 0", "room a yard 1 2 0", "room b yard 1 1 0", "room c b 1 1 0", "person ann c 1 0")
        # All rates are 1, so that all possible trips have the same growth.
        for function in (oldest, youngest):
            self.assertEqual(function(house, "ann", "yard", "yard", (6, 1)), ((6, 1), "a", ("c", "b", "yard", "a", "yard")))
            self.assertEqual(function(house, "ann", "yard", "yard", (5, 1)), ((5, 1), "b", ("c", "b", "yard")))
            self.assertEqual(function(house, "ann", "a", "yard", (5, 1)), ((5, 1), "a", ("c", "b", "yard", "a")))
            self.assertEqual(function(house, "ann", "c", "yard", (1, 1)), ((1, 1), "c", ("c",)))
            self.assertEqual(function(house, "ann", "c", "yard", (2, 1)), ((2, 1), "b", ("c", "b", "c")))

    def test_from_one_side_to_another_one_by_a_third(self):
        house = read(
            "house yard 0", "room b yard 1 1 0", "room c b 1/2 1 0", "room e yard 1 1 0", "room f e 1 1 0", "room g e 5 1 0",
            "person ann c 1 0",
        )
        # c 2, b 1, yard 1, e 1, g 1/5, e 1
        self.assertEqual(oldest(house, "ann", "f", "yard", (20, 1)),
                         ((75, 1), "g", ("c", "b", "yard", "e", "g", "e", "f")))
        self.assertEqual(youngest(house, "ann", "f", "yard", (20, 1)), ((23, 2), "c", ("c", "b", "yard", "e", "f")))

    def test_too_little_time(self):
        house = mill()
        for goal, clock, reading in (("nook", "yard", (9, 1)), ("hall", "yard", (899, 100)), ("tool", "yard", (10 ** 9, 1)),
                                     ("hall", "hall", (12, 1))):
            for function in (oldest, youngest):
                check_error(self, TooLate, {"person": "ann"}, lambda: function(house, "ann", goal, clock, reading), house)
        self.assertEqual(oldest(house, "ann", "hall", "yard", (9, 1)), ((8, 1), "hall", ("yard", "hall")))
        self.assertEqual(oldest(house, "ann", "hall", "hall", (13, 1)), ((8, 1), "hall", ("yard", "hall")))


def all_growths(house, person, goal, moments, most_doors):
    """The growths of the watch on all ways of at most some doors with one stay, by a search: a set."""
    model = Model(house_text(house))
    rates = {room: model.rate(room) for room in model.rooms}
    doors = {room: {} for room in model.rooms}
    for room in house.rooms():
        clock = house.timekeeper(room)
        if clock.around is not None:
            doors[room][clock.around] = doors[clock.around][room] = Fraction(*clock.way)
    factor = model.people[person]["factor"]
    found = set()

    def search(room, left, ways, visited, doors_left):
        if left < 0:
            return
        if room == goal:
            for stay in visited:
                found.add(factor * (ways + left * rates[stay]))
        if doors_left and rates[room]:
            for other, way in doors[room].items():
                search(other, left - way / rates[room], ways + way, visited | {other}, doors_left - 1)

    start = model.people[person]["place"]
    search(start, moments, Fraction(0), {start}, most_doors)
    return found


class SearchTest(unittest.TestCase):
    def cases(self, seed, many, most_rooms):
        chance = random.Random(seed)
        while many:
            house = random_house(chance)
            people = [name for name in house.people() if house.timekeeper(name).goal is None]
            if not people or len(house) > most_rooms:
                continue
            many -= 1
            clocks = [room for room in house.rooms() if house.timekeeper(room).rate != (0, 1)]
            clock = chance.choice(clocks)
            growth = Fraction(*random_number(chance, 60)) if chance.random() < 0.9 else Fraction(0)
            reading = pair(Fraction(*house.timekeeper(clock).time) + growth)
            moments = growth / Fraction(*house.timekeeper(clock).rate)
            yield house, chance.choice(people), chance.choice(house.rooms()), clock, reading, moments

    def test_all_ways_of_a_few_doors(self):
        late = trip = 0
        for house, person, goal, clock, reading, moments in self.cases(131, 120, 4):
            growths = all_growths(house, person, goal, moments, 7)
            given = (person, goal, clock, reading)
            if not growths:
                late += 1
                for function in (oldest, youngest):
                    check_error(self, TooLate, {"person": person}, lambda: function(house, *given), house)
                self.assertEqual(trips(house, *given), tuple((room, None) for room in house.rooms()))
                continue
            trip += 1
            self.assertEqual(oldest(house, *given)[0], pair(max(growths)))
            self.assertEqual(youngest(house, *given)[0], pair(min(growths)))
        self.assertTrue(late > 5 and trip > 50, (late, trip))

    def test_the_trip_that_is_told_can_be_walked(self):
        done = 0
        for house, person, goal, clock, reading, moments in self.cases(132, 150, 10):
            for function in (oldest, youngest):
                try:
                    growth, stay, way = function(house, person, goal, clock, reading)
                except TooLate:
                    continue
                done += 1
                self.walk(house, (person, goal, clock, reading, moments), growth, stay, way)
        self.assertGreater(done, 100)

    def walk(self, house, given, growth, stay, way):
        person, goal, clock, reading, moments = given
        self.assertEqual((way[0], way[-1]), (house.timekeeper(person).place, goal))
        self.assertIn(stay, way)
        # Alarms and bells do not matter for the trip.
        lines = [line for line in house_text(house).split("\n") if line.split(" ")[0] not in ("bell", "alarm")]
        twin = read(*lines)
        begin = Fraction(*twin.timekeeper(person).time)
        walking = Fraction(0)
        for left, entered in zip(way, way[1:]):
            one, other = twin.timekeeper(left), twin.timekeeper(entered)
            length = one.way if one.around == entered else other.way
            walking += Fraction(*length) / Fraction(*one.rate)
        rest = moments - walking
        self.assertGreaterEqual(rest, 0)
        stayed = False
        for k, room in enumerate(way):
            self.assertEqual(twin.timekeeper(person).place, room)
            if room == stay and not stayed:
                stayed = True
                if rest > 0:
                    twin.wait(pair(rest), by=twin.outermost)
            if k + 1 < len(way):
                twin.walk(person, way[k + 1])
                one, other = twin.timekeeper(room), twin.timekeeper(way[k + 1])
                twin.wait(one.way if one.around == way[k + 1] else other.way, by=room)
        self.assertEqual(twin.timekeeper(clock).time, reading)
        self.assertEqual(twin.timekeeper(person).place, goal)
        self.assertEqual(pair(Fraction(*twin.timekeeper(person).time) - begin), growth)

    def test_oldest_and_youngest_among_the_trips(self):
        for house, person, goal, clock, reading, _ in self.cases(133, 80, 10):
            before = all_with_past(house)
            rows = trips(house, person, goal, clock, reading)
            self.assertEqual(tuple(room for room, _ in rows), house.rooms())
            possible = [(Fraction(*growth), room) for room, growth in rows if growth is not None]
            for function, best in ((oldest, max), (youngest, min)):
                if not possible:
                    check_error(self, TooLate, {"person": person}, lambda: function(house, person, goal, clock, reading), house)
                    continue
                growth, room, way = function(house, person, goal, clock, reading)
                found = best(one for one, _ in possible)
                self.assertEqual(growth, pair(found))
                self.assertEqual(room, min(name for one, name in possible if one == found))
                self.assertIs(way.__class__, tuple)
            self.assertEqual(all_with_past(house), before)


class ErrorTest(unittest.TestCase):
    def check(self, house, error, fields, *given):
        for function in (trips, oldest, youngest):
            check_error(self, error, fields, lambda: function(house, *given), house)

    def test_each_alone(self):
        house = mill()
        house.come("dora", "tool")
        for thing in [thing for thing in NO_PEOPLE if thing != "cid"]:
            self.check(house, NoPerson, {"person": thing}, thing, "yard", "yard", (9, 1))
        for thing in NO_ROOMS:
            self.check(house, NoRoom, {"room": thing}, "ann", thing, "yard", (9, 1))
            self.check(house, NoRoom, {"room": thing}, "ann", "yard", thing, (9, 1))
        for reading in NO_NUMBERS + [(4, 1), (49, 10), (-5, 1), (0, 1)]:
            self.check(house, InvalidReading, {"reading": reading}, "ann", "yard", "yard", reading)
        self.check(house, Walking, {"person": "cid"}, "cid", "yard", "yard", (9, 1))
        self.check(house, StandsStill, {"room": "shed"}, "ann", "yard", "shed", (9, 1))
        self.check(house, StandsStill, {"room": "tool"}, "ann", "yard", "tool", (0, 1))

    def test_two_at_once(self):
        house = mill()
        self.check(house, NoPerson, {"person": "x"}, "x", "y", "z", None)
        self.check(house, NoPerson, {"person": "x"}, "x", "yard", "shed", (4, 1))
        self.check(house, NoRoom, {"room": "y"}, "ann", "y", "z", None)
        self.check(house, NoRoom, {"room": "y"}, "cid", "y", "shed", (9, 1))
        self.check(house, NoRoom, {"room": "z"}, "ann", "yard", "z", None)
        self.check(house, NoRoom, {"room": "z"}, "cid", "yard", "z", (9, 1))
        self.check(house, InvalidReading, {"reading": (4, 1)}, "cid", "yard", "yard", (4, 1))
        self.check(house, InvalidReading, {"reading": (-1, 1)}, "ann", "yard", "shed", (-1, 1))
        self.check(house, InvalidReading, {"reading": None}, "cid", "tool", "shed", None)
        self.check(house, Walking, {"person": "cid"}, "cid", "yard", "shed", (9, 1))
        self.check(house, Walking, {"person": "cid"}, "cid", "tool", "yard", (9, 1))
        for function in (oldest, youngest):
            check_error(self, StandsStill, {"room": "shed"}, lambda: function(house, "ann", "tool", "shed", (9, 1)), house)

    def test_trips_are_told_also_where_none_is_possible(self):
        house = mill()
        self.assertEqual(trips(house, "ann", "tool", "yard", (9, 1)), tuple((room, None) for room in house.rooms()))

    def test_nothing_is_changed_in_a_trial(self):
        house = small_house()
        with Trial(house):
            house.wait((3, 1))
            within = oldest(house, "ann", "nook", "yard", (60, 1))
        self.assertEqual(within[0], (227, 4))
        self.assertEqual(oldest(house, "ann", "nook", "yard", (60, 1))[0], (239, 4))


class PlaceTest(unittest.TestCase):
    def test_defined_in_this_file(self):
        for function in (trips, oldest, youngest):
            self.assertEqual(function.__module__, module.__name__)


if __name__ == "__main__":
    unittest.main()
