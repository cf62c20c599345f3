"""Points [2], [15] to [17] and [23], on random houses."""

import random
import unittest
from fractions import Fraction

from roompace.errors import NeverReached, TooMany
from roompace.house import House
from roompace.lines import state_text
from roompace.numbers import add, divide, multiply, number, number_text, subtract
from roompace.reading import number_in
from tests.helpers import all_of
from tests.model import random_deed, random_house, random_number


def waits(seed, many):
    """Random houses, each with a wait that is possible: (house, amount, by)."""
    chance = random.Random(seed)
    found = 0
    while found < many:
        house = random_house(chance)
        amount, by = random_number(chance, 15), chance.choice(house.rooms() + house.people())
        try:
            house.copy().wait(amount, by=by)
        except (NeverReached, TooMany):
            continue
        found += 1
        yield house, amount, by


def times(house):
    return {name: house.timekeeper(name).time for name in house.rooms() + house.people()}


class LinearTest(unittest.TestCase):
    def test_between_two_events(self):
        for house, amount, by in waits(15, 40):
            house.viewpoint = house.outermost
            moments = [event[0] for event in house.copy().wait(amount, by=by)]
            stops = [house.moment] + sorted(set(moments), key=lambda moment: Fraction(*moment))
            for begin, end in zip(stops, stops[1:]):
                third = divide(subtract(end, begin), (3, 1))
                seen = [times(house)]
                rates = {name: house.timekeeper(name).rate for name in seen[0]}
                for _ in range(3):
                    events = house.wait(third)
                    seen.append(times(house))
                self.assertEqual(events[0][0], end)
                for name in rates:
                    for k in (1, 2, 3):
                        self.assertEqual(subtract(seen[k][name], seen[k - 1][name]), multiply(rates[name], third))

    def test_only_an_arrival_changes_a_rate(self):
        for house, amount, by in waits(16, 60):
            before = {name: house.timekeeper(name).rate for name in times(house)}
            arrived = [event[2] for event in house.wait(amount, by=by) if event[1] == "arrival"]
            for name in before:
                if name not in arrived:
                    self.assertEqual(house.timekeeper(name).rate, before[name])


class CutTest(unittest.TestCase):
    def test_two_waits_with_the_same_sum(self):
        for house, amount, by in waits(17, 80):
            whole = house.copy()
            events = whole.wait(amount, by=by)
            readings = []
            for share in ((1, 2), (1, 3), (99, 100)):
                first = multiply(amount, share)
                cut = house.copy()
                self.assertEqual(cut.wait(first, by=by) + cut.wait(subtract(amount, first), by=by), events)
                self.assertEqual(all_of(cut), all_of(whole))
            # Cuts at the moments of the events
            seen = house.copy()
            if by in seen.rooms():
                seen.viewpoint = by
                readings = [event[0] for event in seen.copy().wait(amount, by=by)]
            for reading in readings:
                first = subtract(reading, seen.now)
                if first != amount:
                    cut = house.copy()
                    early = cut.wait(first, by=by)
                    self.assertEqual(len(early), sum(other <= Fraction(*reading) for other in
                                                     [Fraction(*one) for one in readings]))
                    self.assertEqual(early + cut.wait(subtract(amount, first), by=by), events)
                    self.assertEqual(all_of(cut), all_of(whole))


class FutureTest(unittest.TestCase):
    def test_a_house_that_is_read_goes_on_in_the_same_way(self):
        chance = random.Random(18)
        for house, amount, by in waits(18, 60):
            again = House.read(state_text(house.state))
            self.assertTrue(again == house)
            again.viewpoint = house.viewpoint
            self.assertEqual(again.wait(amount, by=by), house.wait(amount, by=by))
            for _ in range(10):
                deed = random_deed(chance, house)
                told = []
                for each in (house, again):
                    try:
                        told.append(each.do(deed))
                    except (ValueError, RuntimeError, LookupError) as error:
                        told.append((error.__class__, vars(error)))
                self.assertEqual(told[0], told[1])
                self.assertEqual(all_of(again), all_of(house))

    def test_equal_calls_on_equal_houses(self):
        for house, amount, by in waits(19, 30):
            self.assertEqual(house.copy().wait(amount, by=by), house.copy().wait(amount, by=by))


def scaled_text(text, scale):
    """The text with all readings, ways, steps, readings of alarms and ends of walks multiplied."""
    places = {"house": (2,), "room": (4, 5), "person": (4, 7), "bell": (3,), "alarm": (3,)}
    lines = []
    for line in text.split("\n"):
        words = line.split(" ")
        for place in places[words[0]]:
            if place < len(words):
                words[place] = number_text(multiply(number_in(words[place]), scale))
        lines.append(" ".join(words))
    return "\n".join(lines)


class MultipliedTest(unittest.TestCase):
    def test_all_lengths_multiplied(self):
        for house, amount, by in waits(20, 60):
            for scale in ((7, 3), (1, 12), (50, 1)):
                other = House.read(scaled_text(state_text(house.state), scale))
                other.viewpoint = house.viewpoint
                twin = house.copy()
                expected = [(multiply(event[0], scale),) + event[1:] for event in twin.wait(amount, by=by)]
                self.assertEqual(list(other.wait(multiply(amount, scale), by=by)), expected)
                self.assertEqual(state_text(other.state), scaled_text(state_text(twin.state), scale))


class LeftOutTest(unittest.TestCase):
    def test_without_one_of_the_people(self):
        for house, amount, by in waits(21, 80):
            for person in house.people():
                if person == by:
                    continue
                lines = [line for line in state_text(house.state).split("\n")
                         if not line.startswith(f"person {person} ")
                         and not (line.startswith("alarm ") and line.split(" ")[2] == person)]
                other = House.read("\n".join(lines))
                other.viewpoint = house.viewpoint
                expected = [event for event in house.copy().wait(amount, by=by)
                            if not (event[1] == "arrival" and event[2] == person)
                            and not (event[1] == "alarm" and event[3] == person)]
                self.assertEqual(list(other.wait(amount, by=by)), expected)


class BigTest(unittest.TestCase):
    def test_readings_of_hundreds_of_digits(self):
        text = "\n".join([
            "house yard " + "1" + "0" * 300, "room hall yard 1/7 1 1/" + "3" * 150, "room nook hall 59/60 1 " + "7" * 200,
            "person ann nook 3/2 " + "5" * 250, "bell gong nook 1/7", "bell peal hall 1/11",
        ])
        house = House.read(text)
        amount = number(10 ** 100 + 1, 10 ** 99)
        events = house.wait(amount)
        self.assertEqual(house.moment, add((10 ** 300, 1), amount))
        # 10 * 59/60 / 7 * 7 strokes of the gong, 10 / 7 * 11 of the other one
        self.assertEqual([sum(event[2] == bell for event in events) for bell in ("gong", "peal")], [9, 15])
        self.assertEqual(sorted(events, key=lambda event: Fraction(*event[0])), list(events))
        self.assertEqual(state_text(House.read(state_text(house.state)).state), state_text(house.state))


if __name__ == "__main__":
    unittest.main()
