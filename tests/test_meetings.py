"""Points [7], [8] and [15], and the section "roompace/meetings.py"."""

import random
import unittest
from fractions import Fraction

from roompace import meetings
from roompace.errors import Apart, NoPerson, NoTimekeeper
from roompace.house import House
from roompace.meetings import first_equal, meet
from roompace.numbers import compare
from roompace.past import forecast
from roompace.texts import house_text
from tests.helpers import NO_PEOPLE, NO_TIMEKEEPERS, all_of, all_with_past, check_error, read, small_house
from tests.model import Model, pair, random_house


def full_house():
    """Ann, Bob and Cid in the hall, of whom Bob walks to the yard; Dora in the nook, Eve in the yard."""
    return read(
        "house yard 9", "room hall yard 1/2 3 4", "room nook hall 2 1 5", "person ann hall 1 7",
        "person bob hall 3 1/2 to yard 6", "person cid hall 1/3 0", "person dora nook 1 7", "person eve yard 1 7",
        "bell gong hall 2", "alarm cook eve 100",
    )


class MeetTest(unittest.TestCase):
    def check(self, house, people, expected):
        before = all_with_past(house)
        found = meet(house, *people)
        self.assertEqual(found, expected)
        self.assertIs(found.__class__, tuple)
        self.assertEqual(all_with_past(house), before)

    def test_nobody(self):
        self.check(full_house(), [], ())
        self.check(House("yard"), [], ())
        self.assertEqual(meet(house=full_house()), ())

    def test_one_person(self):
        for name, reading in (("ann", (7, 1)), ("bob", (1, 2)), ("cid", (0, 1)), ("dora", (7, 1))):
            self.check(full_house(), [name], (reading,))

    def test_in_the_order_in_which_they_are_named(self):
        self.check(full_house(), ["ann", "cid", "bob"], ((7, 1), (0, 1), (1, 2)))
        self.check(full_house(), ["bob", "ann", "cid"], ((1, 2), (7, 1), (0, 1)))

    def test_the_same_person_twice(self):
        self.check(full_house(), ["ann", "ann"], ((7, 1), (7, 1)))
        self.check(full_house(), ["cid", "bob", "cid", "bob"], ((0, 1), (1, 2), (0, 1), (1, 2)))

    def test_people_who_walk_are_in_the_room_that_is_left(self):
        house = full_house()
        house.wait((39, 10))
        self.check(house, ["bob", "ann"], ((127, 20), (179, 20)))
        check_error(self, Apart, {"person": "bob"}, lambda: meet(house, "eve", "bob"), house)
        house.wait((1, 10))
        # Bob has arrived.
        self.check(house, ["bob", "eve"], ((13, 2), (11, 1)))
        check_error(self, Apart, {"person": "bob"}, lambda: meet(house, "ann", "bob"), house)
        house.walk("ann", "nook")
        house.walk("eve", "hall")
        self.check(house, ["cid", "ann"], ((2, 3), (9, 1)))
        self.check(house, ["eve", "bob"], ((11, 1), (13, 2)))

    def test_people_in_a_carried_room(self):
        house = full_house()
        house.walk("ann", "nook")
        house.wait((2, 1))
        house.carry("nook", "yard")
        self.check(house, ["dora", "ann"], ((9, 1), (8, 1)))

    def test_apart(self):
        for people, first in [
            (["ann", "dora"], "dora"), (["dora", "ann"], "ann"), (["ann", "cid", "eve", "dora"], "eve"),
            (["ann", "cid", "dora", "eve"], "dora"), (["eve", "eve", "bob", "ann"], "bob"),
            (["ann", "eve", "ann"], "eve"), (["dora", "cid", "dora"], "cid"),
        ]:
            house = full_house()
            check_error(self, Apart, {"person": first}, lambda: meet(house, *people), house)

    def test_no_people(self):
        house = small_house()
        for thing in NO_PEOPLE:
            for people in ([thing], [thing, "ann"], ["ann", thing], ["ann", "ann", thing, None], [thing, thing]):
                check_error(self, NoPerson, {"person": thing}, lambda: meet(house, *people), house)

    def test_no_person_before_apart(self):
        house = full_house()
        for thing in (None, "frank", "hall", ["ann"]):
            for people in (["ann", "dora", thing], ["ann", thing, "dora"], [thing, "ann", "dora"], ["ann", "eve", thing, 0]):
                check_error(self, NoPerson, {"person": thing}, lambda: meet(house, *people), house)


class FirstEqualTest(unittest.TestCase):
    def check(self, house, first, second, expected):
        before = all_with_past(house)
        self.assertEqual(first_equal(house, first, second), expected)
        self.assertEqual(first_equal(house=house, first=second, second=first), expected)
        self.assertEqual(all_with_past(house), before)

    def test_equal_now(self):
        house = small_house()
        for first in house.rooms() + house.people():
            for second in house.rooms() + house.people():
                self.check(house, first, second, (0, 1))
        house = full_house()
        for first, second in (("ann", "dora"), ("eve", "ann")):
            self.check(house, first, second, (7, 1))

    def test_the_same_timekeeper_twice(self):
        house = full_house()
        for name, reading in (("yard", (9, 1)), ("hall", (4, 1)), ("ann", (7, 1)), ("bob", (1, 2))):
            self.check(house, name, name, reading)

    def test_rooms(self):
        house = read("house yard 10", "room hall yard 3 1 4", "room nook hall 1/2 1 1/2", "room shed yard 1 1 9")
        self.check(house, "yard", "hall", (13, 1))
        # 10 + x = 1/2 + 3/2 x
        self.check(house, "yard", "nook", (29, 1))
        self.check(house, "hall", "nook", None)
        self.check(house, "yard", "shed", None)
        self.check(house, "shed", "hall", (23, 2))

    def test_who_stands_still(self):
        house = read(
            "house yard 2", "room attic yard 0 1 5", "room loft attic 9 1 5", "room cellar yard 0 1 1", "person ann attic 2 3",
            "person bob cellar 1 1 to yard 2",
        )
        self.check(house, "yard", "attic", (5, 1))
        self.check(house, "attic", "loft", (5, 1))
        self.check(house, "yard", "ann", (3, 1))
        self.check(house, "cellar", "bob", (1, 1))
        for first, second in (("yard", "cellar"), ("yard", "bob"), ("attic", "ann"), ("ann", "bob"), ("loft", "cellar")):
            self.check(house, first, second, None)

    def walker(self, reading):
        """Ann is 3 behind the arrival, grows by 1 until then, and by 3 then; the yard shows 5 now."""
        return read("house yard 5", "room hall yard 3 3 0", f"person ann yard 1 {reading} to hall 8")

    def test_before_at_and_behind_an_arrival_of_one(self):
        house = read("house yard 5", "room hall yard 3 9 0", "person ann yard 2 1 to hall 10", "person bob hall 1/6 3")
        # Ann shows 11 when she arrives, the yard 10; so she has met it at 9, after 4 moments.
        self.check(house, "ann", "yard", (9, 1))
        house = read("house yard 5", "room hall yard 3 9 0", "person ann yard 2 0 to hall 10")
        self.check(house, "ann", "yard", (10, 1))
        house.wait((1, 2))
        self.check(house, "ann", "yard", (10, 1))
        # 3 behind at the arrival, when the yard shows 8; then 2 closer in each moment.
        self.check(self.walker(2), "ann", "yard", (19, 2))
        # ahead of the yard for ever
        self.check(self.walker(6), "ann", "yard", None)

    def test_behind_an_arrival_in_a_slower_room(self):
        house = read("house yard 5", "room hall yard 1/4 3 0", "person ann yard 1 7 to hall 8", "person bob yard 1 3 to hall 8")
        # Ann shows 10 at the arrival, and then grows by 1/4.
        self.check(house, "ann", "yard", (32, 3))
        self.check(house, "bob", "yard", None)
        self.check(house, "ann", "bob", None)

    def test_into_a_room_that_stands_still(self):
        house = read("house yard 5", "room hall yard 0 3 0", "person ann yard 1 7 to hall 8", "person bob yard 1 3 to hall 8")
        self.check(house, "ann", "yard", (10, 1))
        self.check(house, "bob", "yard", None)
        self.check(house, "bob", "hall", None)

    def test_both_walk(self):
        lines = ["house yard 0", "room hall yard 2 10 0", "room shed yard 1/2 10 0"]
        # At 4 Ann gets to 2 a moment, at 8 Bob gets to 1/2 (or the other way round).
        for ann, bob, expected in [
            ("1 0 to hall 4", "1 3 to shed 8", (10, 1)),      # between the two arrivals
            ("1 0 to hall 4", "1 4 to shed 8", (12, 1)),      # at the second arrival
            ("1 0 to hall 4", "1 5 to shed 8", (40, 3)),      # behind both
            ("1 0 to shed 8", "1 3 to hall 4", None),
            ("2 0 to hall 4", "1 3 to shed 8", (6, 1)),       # before both
            ("2 0 to hall 4", "1 4 to shed 8", (8, 1)),       # at the first arrival
            ("1 0 to shed 4", "1 1/2 to shed 4", None),       # arrivals at one moment
            ("1 0 to hall 4", "1 1 to shed 4", (16, 3)),
            ("1 0 to shed 4", "1 1 to hall 4", None),
        ]:
            house = read(*lines, f"person ann yard {ann}", f"person bob yard {bob}")
            self.check(house, "ann", "bob", expected)
            other = read(*lines, f"person ann yard {bob}", f"person bob yard {ann}")
            self.check(other, "ann", "bob", expected)

    def test_only_the_first_moment_counts(self):
        # Ann overtakes the yard, and it overtakes her again.
        house = read("house yard 4", "room hall yard 1/4 4 0", "person ann yard 2 3 to hall 8")
        self.check(house, "ann", "yard", (5, 1))
        house.wait((2, 1))
        self.check(house, "ann", "yard", (14, 1))
        house.wait((8, 1))
        self.check(house, "ann", "yard", (14, 1))
        house.wait((1, 1))
        self.check(house, "ann", "yard", None)

    def test_a_walk_from_a_room_that_stands_still(self):
        house = read("house yard 4", "room hall yard 0 4 0", "person ann hall 2 3 to yard 4")
        self.check(house, "ann", "yard", None)
        self.check(house, "ann", "hall", None)
        house.set_pace("hall", (4, 1))
        # She arrives after 1 moment, shows 11 and grows by 2 a moment; but before it she met the yard.
        self.check(house, "ann", "yard", (29, 7))

    def test_after_deeds(self):
        house = small_house()
        house.wait((3, 1))
        self.check(house, "yard", "hall", None)
        house.set_pace("hall", (4, 1))
        self.check(house, "yard", "hall", (7, 2))
        house.carry("nook", "yard")
        self.check(house, "nook", "yard", (15, 4))
        house.walk("ann", "hall")
        self.check(house, "ann", "bob", (3, 1))

    def test_errors(self):
        house = small_house()
        for thing in NO_TIMEKEEPERS:
            for second in ("yard", "ann", "attic", None, thing):
                check_error(self, NoTimekeeper, {"name": thing}, lambda: first_equal(house, thing, second), house)
            for first in ("yard", "ann"):
                check_error(self, NoTimekeeper, {"name": thing}, lambda: first_equal(house, first, thing), house)


def model_track(house, names):
    """What the second model tells of the readings of timekeepers: rows (moment, readings) at the arrivals and behind."""
    model = Model(house_text(house))
    moment = Fraction(0)
    rows = [(moment, [model.time(name) for name in names])]
    while True:
        arrivals = sorted(event for event in model.coming() if event[1] == 0)
        step = arrivals[0][0] if arrivals else Fraction(1)
        model.pass_moments(step)
        moment += step
        rows.append((moment, [model.time(name) for name in names]))
        if not arrivals:
            return rows
        for at, kind, name in arrivals:
            if at == step:
                model.happen(kind, name, "yard")


def model_equal(house, first, second):
    rows = [(moment, one, one - other) for moment, (one, other) in model_track(house, (first, second))]
    last = len(rows) - 2
    for k, (begin, end) in enumerate(zip(rows, rows[1:])):
        if begin[2] == 0:
            return pair(begin[1])
        if begin[2] == end[2]:
            continue
        share = begin[2] / (begin[2] - end[2])
        if share >= 0 and (share <= 1 or k == last):
            return pair(begin[1] + share * (end[1] - begin[1]))
    return None


class RandomTest(unittest.TestCase):
    def test_second_model(self):
        chance = random.Random(71)
        kinds = {"now": 0, "never": 0, "later": 0, "arrival": 0}
        for _ in range(60):
            house = random_house(chance)
            before = all_of(house)
            names = house.rooms() + house.people()
            for first in names:
                for second in names:
                    found = first_equal(house, first, second)
                    self.assertEqual(found, model_equal(house, first, second), house_text(house))
                    if found is None:
                        kinds["never"] += 1
                    elif found == house.timekeeper(first).time:
                        kinds["now"] += 1
                    else:
                        kinds["later"] += 1
                        kinds["arrival"] += self.check_moment(house, first, second, found)
            self.assertEqual(all_of(house), before)
        self.assertGreater(min(kinds.values()), 20, kinds)

    def check_moment(self, house, first, second, found):
        """Check with a wait that both show it then, and that neither of them had overtaken the other one before."""
        moments = [Fraction(*forecast(house, found, name, house.outermost)) for name in (first, second)]
        growth = max(moments) - Fraction(*house.moment)
        # Without bells no wait has too many events.
        twin = House.read("\n".join(line for line in house_text(house).split("\n") if not line.startswith("bell ")))
        side = compare(twin.timekeeper(first).time, twin.timekeeper(second).time)
        arrived = 0
        for k in (1, 2, 3, 4):
            events = twin.wait(pair(growth / 4), by=twin.outermost)
            arrived += any(event[1] == "arrival" and event[2] in (first, second) for event in events)
            lead = compare(twin.timekeeper(first).time, twin.timekeeper(second).time)
            self.assertEqual(lead, 0 if k == 4 else side)
        self.assertEqual(twin.timekeeper(first).time, found)
        return arrived > 0


class PlaceTest(unittest.TestCase):
    def test_defined_in_this_file(self):
        self.assertEqual((meet.__module__, first_equal.__module__), (meetings.__name__, meetings.__name__))


if __name__ == "__main__":
    unittest.main()
