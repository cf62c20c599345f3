"""Points [2], [6], [12], [15], [19] and [25], and the section "roompace/seen.py"."""

import random
import unittest
from fractions import Fraction

from roompace import seen
from roompace.errors import NeverShown, NoRoom, StandsStill
from roompace.house import House
from roompace.numbers import divide
from roompace.past import convert
from roompace.seen import seen_from
from roompace.texts import house_text
from tests.helpers import NO_NAMES, all_with_past, check_error, read, small_house
from tests.model import Model, pair, random_deed, random_house, random_number


def deep_house():
    """Rooms four deep with side rooms, people who walk, bells and alarms; a shed that stands still."""
    return read(
        "house yard 7/2", "room hall yard 1/2 3 4", "room nook hall 3 5 1/3", "room loft nook 2/5 7/2 9", "room side hall 4 1 8",
        "room shed yard 0 2 6", "room tool shed 7 1 5", "person ann hall 2 1 to nook 6", "person bob yard 1 4 to hall 5",
        "person cid loft 1/3 2", "person dora shed 5 0 to yard 7", "bell alto nook 7/2", "bell bass yard 3", "bell dumb tool 1",
        "alarm cook cid 3", "alarm wake side 10",
    )


def line_of(house, room):
    """A room and the rooms around it, up to the outermost one."""
    line = [room]
    while house.timekeeper(line[-1]).around is not None:
        line.append(house.timekeeper(line[-1]).around)
    return line


def pace_of_zero(house, line):
    """The first room of a line whose pace is 0, None if there is none."""
    still = [name for name in line if house.timekeeper(name).pace == (0, 1)]
    return still[0] if still else None


def turned_text(house, room):
    """The text of the house seen from a room, with each line told anew."""
    rows = {}
    for line in house_text(house).split("\n"):
        word, name, *rest = line.split(" ")
        if word == "house":
            rows[name] = [None, None, None, rest[0]]
        elif word == "room":
            rows[name] = [rest[0], Fraction(rest[1]), rest[2], rest[3]]
    line = line_of(house, room)
    old = {name: list(rows[name]) for name in rows}
    for inner, outer in zip(line, line[1:]):
        rows[outer][:3] = [inner, 1 / old[inner][1], old[inner][2]]
    lines = [f"house {room} {rows[room][3]}"]

    def tell(outer):
        for name in sorted(rows):
            if name != room and rows[name][0] == outer:
                lines.append(f"room {name} {rows[name][0]} {rows[name][1]} {rows[name][2]} {rows[name][3]}")
                tell(name)

    tell(room)
    rest = [one for one in house_text(house).split("\n") if one.split(" ")[0] not in ("house", "room")]
    return "\n".join(lines + rest)


class SeenTest(unittest.TestCase):
    def test_example(self):
        house = House("yard")
        house.build("hall", "yard", pace=(1, 2))
        house.build("nook", "hall", pace=(3, 1), way=(5, 1))
        other = seen_from(house, "nook")
        self.assertEqual([other.timekeeper("yard").shown(), other.timekeeper("hall").shown()],
                         ["yard 0 at 2 in hall", "hall 0 at 1/3 in nook"])
        self.assertEqual(other.timekeeper("hall").way, (5, 1))
        self.assertEqual(house_text(seen_from(room="nook", house=house)), house_text(other))

    def test_by_hand(self):
        other = seen_from(deep_house(), "nook")
        self.assertEqual(house_text(other).split("\n"), [
            "house nook 1/3", "room hall nook 1/3 5 4", "room side hall 4 1 8", "room yard hall 2 3 7/2", "room shed yard 0 2 6",
            "room tool shed 7 1 5", "room loft nook 2/5 7/2 9", "person ann hall 2 1 to nook 6", "person bob yard 1 4 to hall 5",
            "person cid loft 1/3 2", "person dora shed 5 0 to yard 7", "bell alto nook 7/2", "bell bass yard 3",
            "bell dumb tool 1", "alarm cook cid 3", "alarm wake side 10",
        ])
        self.assertEqual((other.viewpoint, other.outermost, other.now, other.moment), ("nook", "nook", (1, 3), (1, 3)))

    def check_seen(self, house, room):
        before = all_with_past(house)
        line = line_of(house, room)
        still = pace_of_zero(house, line)
        if still is not None:
            check_error(self, StandsStill, {"room": still}, lambda: seen_from(house, room), house)
            return None
        other = seen_from(house, room)
        self.assertIs(other.__class__, House)
        self.assertEqual(house_text(other), turned_text(house, room))
        self.assertEqual((other.viewpoint, other.outermost), (room, room))
        rate = house.timekeeper(room).rate
        for name in house.rooms() + house.people():
            self.assertEqual(other.timekeeper(name).rate, divide(house.timekeeper(name).rate, rate))
            self.assertEqual(other.timekeeper(name).time, house.timekeeper(name).time)
        clock = other.timekeeper(room)
        self.assertEqual((clock.rate, clock.pace, clock.around, clock.way), ((1, 1), (1, 1), None, None))
        for name in house.people():
            self.assertEqual(other.timekeeper(name).place, house.timekeeper(name).place)
            self.assertEqual(other.timekeeper(name).goal, house.timekeeper(name).goal)
        self.assertEqual([other.bell(name) for name in other.bells()], [house.bell(name) for name in house.bells()])
        self.assertEqual([other.alarm(name) for name in other.alarms()], [house.alarm(name) for name in house.alarms()])
        self.assertEqual(all_with_past(house), before)
        return other

    def test_from_every_room(self):
        house = deep_house()
        self.assertEqual([room for room in house.rooms() if self.check_seen(house, room) is not None],
                         ["hall", "loft", "nook", "side", "yard"])
        chance = random.Random(121)
        done = 0
        for _ in range(60):
            house = random_house(chance)
            for room in house.rooms():
                done += self.check_seen(house, room) is not None
        self.assertGreater(done, 200)

    def test_from_the_outermost_room(self):
        house = deep_house()
        house.viewpoint = "loft"
        other = seen_from(house, "yard")
        self.assertTrue(other == house)
        self.assertEqual((other.viewpoint, house.viewpoint), ("yard", "loft"))
        self.assertTrue(seen_from(House("a"), "a") == House("a"))

    def test_there_and_back(self):
        chance = random.Random(122)
        for house in [deep_house()] + [random_house(chance) for _ in range(30)]:
            for room in house.rooms():
                if pace_of_zero(house, line_of(house, room)) is None:
                    self.assertTrue(seen_from(seen_from(house, room), house.outermost) == house)

    def test_from_one_room_and_then_from_another_one(self):
        chance = random.Random(123)
        done = 0
        for house in [deep_house()] + [random_house(chance) for _ in range(30)]:
            open_rooms = [room for room in house.rooms() if pace_of_zero(house, line_of(house, room)) is None]
            for first in open_rooms:
                for second in open_rooms:
                    direct = seen_from(house, second)
                    self.assertTrue(seen_from(seen_from(house, first), second) == direct)
                    done += 1
        self.assertGreater(done, 200)

    def test_a_room_that_stands_still_on_the_way(self):
        house = deep_house()
        for room, still in (("shed", "shed"), ("tool", "shed")):
            check_error(self, StandsStill, {"room": still}, lambda: seen_from(house, room), house)
        house.set_paces(hall=(0, 1), loft=(0, 1))
        for room, still in (("loft", "loft"), ("nook", "hall"), ("hall", "hall"), ("side", "hall"), ("tool", "shed")):
            check_error(self, StandsStill, {"room": still}, lambda: seen_from(house, room), house)
        house.set_paces(tool=(0, 1))
        check_error(self, StandsStill, {"room": "tool"}, lambda: seen_from(house, "tool"), house)
        self.assertTrue(seen_from(house, "yard") == house)
        # Seen from the nook, the side room may stand still, and so may all that is not on the way.
        house.set_paces(hall=(1, 1), side=(0, 1))
        self.assertEqual(seen_from(house, "nook").timekeeper("side").rate, (0, 1))

    def test_no_rooms(self):
        house = deep_house()
        for thing in NO_NAMES + ["attic", "ann", "bass", "cook"]:
            check_error(self, NoRoom, {"room": thing}, lambda: seen_from(house, thing), house)

    def test_its_past_begins_now(self):
        house = small_house()
        house.wait((2, 1))
        house.set_pace("hall", (3, 1))
        house.wait((1, 1))
        other = seen_from(house, "nook")
        self.assertEqual(convert(house, (1, 1), "yard", "hall"), ((1, 2), (1, 2)))
        for of, reading in (("yard", (1, 1)), ("hall", (1, 2)), ("ann", (0, 1)), ("yard", (299, 100))):
            check_error(self, NeverShown, {"reading": reading}, lambda: convert(other, reading, of, "yard"), other)
        self.assertEqual(convert(other, (3, 1), "yard", "hall"), ((4, 1), (4, 1)))
        other.wait((1, 1), by="yard")
        self.assertEqual(convert(other, (7, 2), "yard", "hall"), ((11, 2), (11, 2)))
        check_error(self, NeverShown, {"reading": (7, 2)}, lambda: convert(house, (7, 2), "yard", "hall"), house)
        # Even the house seen from its own outermost room begins a past.
        same = seen_from(house, "yard")
        check_error(self, NeverShown, {"reading": (1, 1)}, lambda: convert(same, (1, 1), "yard", "hall"), same)

    def test_neither_house_changes_with_the_other_one(self):
        house = deep_house()
        other = seen_from(house, "nook")
        first, second = all_with_past(house), all_with_past(other)
        for deed in [("cancel", "wake"), ("wait", (1, 1), "yard"), ("pace", "side", (1, 7)), ("hang", "peal", "loft", (1, 1)),
                     ("come", "eve", "tool", (1, 1)), ("carry", "tool", "hall"), ("build", "attic", "yard", (1, 1), (1, 1))]:
            house.do(deed)
            self.assertEqual(all_with_past(other), second)
        led_on = all_with_past(house)
        self.assertNotEqual(led_on, first)
        for deed in [("wait", (1, 2), "yard"), ("pace", "yard", (5, 1)), ("carry", "loft", "side"), ("walk", "cid", "nook")]:
            try:
                other.do(deed)
            except RuntimeError:
                pass
            self.assertEqual(all_with_past(house), led_on)
        self.assertNotEqual(all_with_past(other), second)


def written_for(house, line, deed):
    """A deed on a house, as it is written for the house seen from the first room of a line.

    None if point [19] tells nothing about it.
    """
    if deed[0] == "carry" and deed[1] in line:
        return None
    if deed[0] == "pace" and deed[1] in line:
        if deed[1] == line[-1] or deed[2][0] == 0:
            return None
        return ("pace", house.timekeeper(deed[1]).around, (deed[2][1], deed[2][0]))
    return deed


def told_by(house, deed):
    """What a deed returns without the readings of the viewpoint, or its error."""
    try:
        answer = house.do(deed)
    except (ValueError, RuntimeError, LookupError) as error:
        return (error.__class__, sorted(vars(error).items()))
    return answer if answer is None else [event[1:] for event in answer]


def all_times(house):
    return {name: house.timekeeper(name).time for name in house.rooms() + house.people()}


class LedOnTest(unittest.TestCase):
    def lead_on(self, chance, house, room, many):
        line = line_of(house, room)
        other = seen_from(house, room)
        done = 0
        for _ in range(many):
            deed = random_deed(chance, house)
            if chance.random() < 0.5:
                deed = ("wait", random_number(chance, 6), chance.choice(house.rooms() + house.people()))
            written = written_for(house, line, deed)
            if written is None:
                continue
            self.assertEqual(told_by(house, deed), told_by(other, written), (deed, written))
            self.assertEqual(all_times(house), all_times(other))
            self.assertTrue(seen_from(house, room) == other)
            done += 1
        return done

    def test_random_deeds(self):
        chance = random.Random(124)
        done = 0
        for _ in range(40):
            house = random_house(chance)
            rooms = [room for room in house.rooms() if pace_of_zero(house, line_of(house, room)) is None]
            for room in chance.sample(rooms, min(3, len(rooms))):
                done += self.lead_on(chance, house.copy(), room, 25)
        self.assertGreater(done, 1000)

    def test_by_hand(self):
        house = deep_house()
        other = seen_from(house, "loft")
        for deed, written in [
            (("wait", (1, 1), "yard"), None), (("pace", "nook", (7, 2)), ("pace", "hall", (2, 7))), (("wait", (4, 1), "ann"), None),
            (("pace", "hall", (1, 9)), ("pace", "yard", (9, 1))), (("wait", (10, 1), "side"), None), (("walk", "cid", "nook"), None),
            (("pace", "shed", (5, 1)), None), (("pace", "loft", (1, 3)), ("pace", "nook", (3, 1))), (("wait", (50, 1), "cid"), None),
            (("carry", "side", "shed"), None), (("wait", (9, 1), "side"), None),
        ]:
            first, second = told_by(house, deed), told_by(other, written or deed)
            self.assertEqual(first, second)
            self.assertEqual(all_times(house), all_times(other))
        self.assertTrue(seen_from(other, "yard") == house)

    def test_two_views_of_one_house(self):
        house = deep_house()
        first, second = seen_from(house, "nook"), seen_from(house, "side")
        for amount, by in (((3, 1), "cid"), ((7, 3), "yard"), ((8, 1), "hall")):
            told = [told_by(each, ("wait", amount, by)) for each in (house, first, second)]
            self.assertEqual(told[0], told[1])
            self.assertEqual(told[0], told[2])
        self.assertTrue(seen_from(first, "side") == second)
        self.assertTrue(seen_from(second, "nook") == first)

    def test_the_readings_of_events_are_those_of_the_room(self):
        house = deep_house()
        other = seen_from(house, "nook")
        house.viewpoint = "nook"
        self.assertEqual(house.wait((9, 1), by="yard"), other.wait((9, 1), by="yard"))
        self.assertEqual(house.now, other.now)

    def test_readings_are_linear_in_both_moments(self):
        house = deep_house()
        other = seen_from(house, "hall")
        before, rates = all_times(other), {name: other.timekeeper(name).rate for name in all_times(other)}
        other.wait((1, 4))
        house.wait((1, 4), by="hall")
        for name in before:
            self.assertEqual(other.timekeeper(name).time, house.timekeeper(name).time)
            growth = Fraction(*other.timekeeper(name).time) - Fraction(*before[name])
            self.assertEqual(pair(growth), pair(Fraction(*rates[name]) / 4))

    def test_the_second_model_agrees(self):
        chance = random.Random(125)
        for _ in range(30):
            house = random_house(chance)
            rooms = [room for room in house.rooms() if pace_of_zero(house, line_of(house, room)) is None]
            other = seen_from(house, chance.choice(rooms))
            by, amount = chance.choice(house.rooms() + house.people()), random_number(chance, 9)
            expected = Model(house_text(house)).wait(amount, by, other.outermost)
            if expected is None:
                self.assertIn(told_by(other, ("wait", amount, by))[0].__name__, ("NeverReached", "TooMany"))
            else:
                self.assertEqual(list(other.wait(amount, by=by)), expected)


class PlaceTest(unittest.TestCase):
    def test_defined_in_this_file(self):
        self.assertEqual(seen_from.__module__, seen.__name__)


if __name__ == "__main__":
    unittest.main()
