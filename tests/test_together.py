"""Points [9] and [21], and the section "roompace/together.py"."""

import random
import time
import unittest
from fractions import Fraction

from roompace import together as module
from roompace.errors import NeverTogether, NoBell, Silent
from roompace.house import House
from roompace.numbers import compare, least_multiple, number_text
from roompace.strokes import nth_stroke
from roompace.texts import house_text
from roompace.together import together
from tests.helpers import NO_BELLS, all_with_past, check_error, read, small_house
from tests.model import Model, pair, random_house


def rhythms(house):
    """For each bell: the moment of its first stroke and the span between two, None where its room stands still."""
    model = Model(house_text(house))
    table = {}
    for name, (room, step) in model.bells.items():
        begin, rate = model.time(room), model.rate(room)
        table[name] = None if rate == 0 else (((begin // step + 1) * step - begin) / rate, step / rate)
    return table


def measure(first, second):
    """The greatest number of which both are integer multiples, by Euclid's way."""
    while second:
        first, second = second, first % second
    return first


def strikes(rhythm, moment):
    return moment >= rhythm[0] and ((moment - rhythm[0]) / rhythm[1]).denominator == 1


def expected_reason(house, bells):
    table = rhythms(house)
    names = sorted(set(bells))
    for name in names:
        if table[name] is None:
            return ("still", name)
    for first in names:
        for second in names:
            if first < second:
                (a, m), (b, n) = table[first], table[second]
                if ((a - b) / measure(m, n)).denominator != 1:
                    return ("apart", first, second)
    return None


class TogetherTest(unittest.TestCase):
    def check(self, house, bells, expected):
        before = all_with_past(house)
        self.assertEqual(together(house, *bells), expected)
        self.assertEqual(together(house, *reversed(bells)), expected)
        self.assertEqual(all_with_past(house), before)

    def check_never(self, house, bells, reason):
        for named in (bells, list(reversed(bells)), bells + bells):
            check_error(self, NeverTogether, {"reason": reason}, lambda: together(house, *named), house)

    def test_example(self):
        house = House("yard")
        house.hang("gong", "yard", step=(2, 3))
        house.hang("bell", "yard", step=(1, 2))
        self.assertEqual(together(house), ((2, 1), (2, 1)))
        self.assertEqual(together(house=house), ((2, 1), (2, 1)))
        self.check(house, ["gong", "bell"], ((2, 1), (2, 1)))

    def test_one_bell(self):
        house = read("house yard 7/2", "room hall yard 2/3 1 4", "bell alto hall 2", "bell bass yard 3")
        self.check(house, ["alto"], ((3, 1), (3, 1)))
        self.check(house, ["bass"], ((5, 2), (3, 1)))
        self.check(house, ["bass", "bass"], ((5, 2), (3, 1)))

    def test_now_does_not_count(self):
        house = read("house yard 6", "bell a yard 2", "bell b yard 3")
        self.check(house, [], ((6, 1), (6, 1)))
        house.wait((1, 1))
        self.check(house, [], ((5, 1), (6, 1)))
        house.wait((5, 1))
        self.check(house, [], ((6, 1), (6, 1)))

    def test_at_once_and_late(self):
        # Both strike first in 1/2 moment.
        house = read("house yard 3/2", "room hall yard 1 1 5/2", "bell a yard 2", "bell b hall 3", "bell c hall 999999/998")
        self.check(house, ["a", "b"], ((1, 2), (6, 1)))
        house = read("house yard 1", "room hall yard 1 1 2", "bell a yard 999983", "bell b hall 999979")
        moment, period = together(house)
        self.assertEqual(period, (999983 * 999979, 1))
        self.assertEqual((moment[0] + 1) % 999983, 0)
        self.assertEqual((moment[0] + 2) % 999979, 0)
        self.assertTrue(0 < moment[0] <= period[0])
        house = read("house yard 0", "room hall yard 1 1 1", "bell a yard 7", "bell b hall 11")
        self.check(house, [], ((21, 1), (77, 1)))

    def test_three_and_more(self):
        house = read("house yard 1", "bell a yard 2", "bell b yard 3", "bell c yard 5", "bell d yard 7/2")
        self.check(house, ["a", "b", "c"], ((29, 1), (30, 1)))
        self.check(house, [], ((209, 1), (210, 1)))
        self.check(house, ["d", "b"], ((20, 1), (21, 1)))
        house = read("house yard 0", "room hall yard 1 1 1", "room nook yard 1 1 2",
                     "bell a yard 3", "bell b hall 5", "bell c nook 7")
        # 54 is a multiple of 3, 55 of 5 and 56 of 7.
        self.check(house, [], ((54, 1), (105, 1)))

    def test_at_different_paces(self):
        house = read("house yard 0", "room hall yard 1/2 1 0", "room nook hall 3 1 1", "bell a yard 5", "bell b hall 2",
                     "bell c nook 2")
        # b each 4 moments, c first after 2/3 and then each 4/3
        self.check(house, ["a", "b"], ((20, 1), (20, 1)))
        self.check(house, ["a", "c"], ((10, 1), (20, 1)))
        self.check_never(house, ["b", "c"], ("apart", "b", "c"))
        self.check_never(house, ["a", "b", "c"], ("apart", "b", "c"))
        house.set_pace("nook", (1, 1))
        self.check_never(house, ["b", "c"], ("apart", "b", "c"))
        house.set_pace("nook", (2, 1))
        house.wait((1, 1))
        # b after 3 and each 4, c (which shows 2) after 2 and each 2
        self.check_never(house, ["b", "c"], ("apart", "b", "c"))

    def test_for_every_viewpoint(self):
        house = read("house yard 0", "room hall yard 1/2 1 0", "bell a yard 5", "bell b hall 2")
        for room in house.rooms():
            house.viewpoint = room
            self.check(house, [], ((20, 1), (20, 1)))

    def test_still(self):
        lines = ["house yard 0", "room hall yard 0 1 0", "room nook hall 3 1 0", "bell a yard 1", "bell b hall 1",
                 "bell c nook 1", "bell d yard 2"]
        house = read(*lines)
        self.check_never(house, [], ("still", "b"))
        self.check_never(house, ["c", "a"], ("still", "c"))
        self.check_never(house, ["d", "c", "b"], ("still", "b"))
        self.check_never(house, ["b"], ("still", "b"))
        self.check(house, ["a", "d"], ((2, 1), (2, 1)))

    def test_still_before_apart(self):
        house = read("house yard 0", "room hall yard 0 1 0", "room nook yard 1 1 1", "bell a yard 2", "bell b nook 2",
                     "bell z hall 1")
        self.check_never(house, [], ("still", "z"))
        self.check_never(house, ["a", "b"], ("apart", "a", "b"))

    def test_the_first_pair(self):
        # At readings 0 and 1: a and c strike at even moments, b and d at odd ones, e always.
        house = read("house yard 0", "room nook yard 1 1 1", "bell a yard 2", "bell b nook 2", "bell c yard 2",
                     "bell d nook 2", "bell e yard 1")
        self.check_never(house, [], ("apart", "a", "b"))
        self.check_never(house, ["d", "c", "e", "a"], ("apart", "a", "d"))
        self.check_never(house, ["e", "d", "c"], ("apart", "c", "d"))
        self.check_never(house, ["b", "c", "d"], ("apart", "b", "c"))
        self.check(house, ["b", "e", "d"], ((1, 1), (2, 1)))
        self.check(house, ["a", "c", "e"], ((2, 1), (2, 1)))

    def test_after_a_bell_was_hung_at_a_multiple(self):
        house = House("yard")
        house.wait((6, 1))
        house.hang("a", "yard", step=(2, 1))
        house.hang("b", "yard", step=(3, 1))
        self.check(house, [], ((6, 1), (6, 1)))

    def test_errors(self):
        check_error(self, Silent, {"names": ()}, lambda: together(House("yard")))
        for house in (small_house(), House("yard")):
            for thing in NO_BELLS:
                check_error(self, NoBell, {"name": thing}, lambda: together(house, thing), house)
        house = small_house()
        house.set_pace("hall", (0, 1))
        for thing in (None, "peal", ["gong"], "hall"):
            for bells in ([thing], ["gong", thing], [thing, "gong", "none"], ["gong", "gong", thing, 0]):
                check_error(self, NoBell, {"name": thing}, lambda: together(house, *bells), house)


class RandomTest(unittest.TestCase):
    def test_random_bells(self):
        chance = random.Random(91)
        kinds = {"still": 0, "apart": 0, "met": 0}
        while min(kinds.values()) < 40:
            house = random_house(chance)
            bells = [chance.choice(house.bells()) for _ in range(chance.randint(1, 5))] if house.bells() else []
            if not bells:
                continue
            kinds[self.check_bells(house, bells)] += 1

    def check_bells(self, house, bells):
        reason = expected_reason(house, bells)
        if reason is not None:
            check_error(self, NeverTogether, {"reason": reason}, lambda: together(house, *bells), house)
            return reason[0]
        table = rhythms(house)
        found = together(house, *bells)
        moment, period = Fraction(*found[0]), Fraction(*found[1])
        self.assertEqual(pair(period), least_multiple(*[pair(table[name][1]) for name in bells]))
        self.assertTrue(0 < moment <= period)
        # Of all strokes of the first bell in one period, this is the first one at which all others strike.
        first, every = table[bells[0]]
        many = min(int(period / every), 3000)
        meetings = [first + k * every for k in range(many)
                    if all(strikes(table[name], first + k * every) for name in bells)]
        if many < 3000:
            self.assertEqual(meetings, [moment])
        else:
            self.assertTrue(meetings in ([], [moment]))
            self.assertTrue(all(strikes(table[name], moment) for name in bells))
        return "met"

    def test_among_the_strokes(self):
        house = read("house yard 3", "room hall yard 5/2 1 15/2", "bell a yard 4/3", "bell b hall 7/2", "bell c hall 1")
        moment, period = together(house)
        self.assertEqual((moment, period), ((25, 1), (28, 1)))
        names = []
        n = 0
        while True:
            at, name = nth_stroke(house, n)
            if compare(at, moment) > 0:
                break
            names.append((at, name))
            n += 1
        self.assertEqual([name for at, name in names if at == moment], ["a", "b", "c"])
        for at, _ in names[:-3]:
            self.assertLess(len([name for other, name in names if other == at]), 3)
        house.wait(moment)
        self.assertEqual(together(house), (period, period))

    def test_a_second_meeting_behind_a_wait(self):
        chance = random.Random(92)
        done = 0
        while done < 20:
            house = random_house(chance)
            if not house.bells() or expected_reason(house, house.bells()) is not None:
                continue
            moment, period = together(house)
            if compare(moment, (20, 1)) > 0:
                continue
            done += 1
            house.wait(moment, by=house.outermost)
            self.assertEqual(together(house), (period, period))

    def test_many_digits_in_a_moments_time(self):
        chance = random.Random(93)
        begin = time.process_time()
        reading = f"{chance.randrange(10 ** 398, 10 ** 399) * 2 + 1}/{2 ** 1320}"
        lines = [f"house yard {reading}"]
        steps = [(999983, 1), (999979, 2), (999961, 4), (999959, 5), (999953, 7), (999931, 8), (999917, 997), (999907, 991)]
        for bell, step in zip("abcdefgh", steps):
            lines.append(f"bell {bell} yard {number_text(step)}")
        house = read(*lines)
        moment, period = together(house)
        table = rhythms(house)
        self.assertTrue(all(strikes(table[name], Fraction(*moment)) for name in table))
        self.assertEqual(period, least_multiple(*[house.bell(name)[1] for name in house.bells()]))
        self.assertTrue(0 < Fraction(*moment) <= Fraction(*period))
        self.assertLess(time.process_time() - begin, 2)


class PlaceTest(unittest.TestCase):
    def test_defined_in_this_file(self):
        self.assertEqual(together.__module__, module.__name__)


if __name__ == "__main__":
    unittest.main()
