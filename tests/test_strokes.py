"""Points [9], [12] and [20], and the section "roompace/strokes.py"."""

import random
import time
import unittest
from fractions import Fraction

from roompace import strokes
from roompace.errors import InvalidAmount, InvalidCount, NeverReached, NoBell, Silent, TooMany
from roompace.house import House
from roompace.numbers import number, number_text
from roompace.strokes import count_strokes, first_strokes, nth_stroke
from roompace.texts import house_text
from tests.helpers import NO_BELLS, NO_NUMBERS, all_with_past, check_error, read, small_house
from tests.model import Model, pair, random_house, random_number

NO_COUNTS = [None, True, False, -1, -10 ** 30, "0", "", (0, 1), (1, 1), [0], ()]
NO_AMOUNTS = NO_NUMBERS + [(0, 1), (-1, 1), (-10 ** 399, 7)]

GREATEST = 10 ** 18


def belfry():
    """Bells at several paces, one of them in a room that stands still, and two that often strike together."""
    return read(
        "house yard 7/2", "room hall yard 2/3 1 4", "room nook hall 5 1 1/3", "room shed yard 0 1 6", "person ann yard 1 0",
        "bell alto hall 2", "bell bass yard 3", "bell dumb shed 2", "bell gong yard 3/2", "bell peal nook 7/2",
    )


def rows_of(house, bells):
    """For each bell whose room runs: (name, reading, rate, step)."""
    model = Model(house_text(house))
    rows = [(name, model.time(room), model.rate(room), step) for name, (room, step) in model.bells.items() if name in bells]
    return [row for row in rows if row[2] > 0]


def listed(house, moments, bells):
    """The strokes of the next moments, one by one: (moment, bell)."""
    found = []
    for name, begin, rate, step in rows_of(house, bells):
        multiple = step * (begin // step)
        while True:
            multiple += step
            moment = (multiple - begin) / rate
            if moment > moments:
                break
            found.append((moment, name))
    return sorted(found)


def counted(house, moments, bells):
    """The sum of the numbers of strokes that point [20] tells."""
    return sum((begin + rate * moments) // step - begin // step for _, begin, rate, step in rows_of(house, bells))


class StrokesTest(unittest.TestCase):
    def check_listed(self, house, moments, bells):
        """Compare all three functions with strokes that are listed; the bells may be named in any way."""
        before = all_with_past(house)
        meant = bells or house.bells()
        expected = [(pair(moment), name) for moment, name in listed(house, moments, meant)]
        self.assertEqual(count_strokes(house, pair(Fraction(moments)), *bells), len(expected))
        self.assertEqual([nth_stroke(house, n, *bells) for n in range(len(expected))], expected)
        self.assertEqual(list(first_strokes(house, len(expected), *bells)), expected)
        self.assertEqual(all_with_past(house), before)
        return expected

    def check_far(self, house, n, *bells):
        """Check a stroke that is too far to be listed by the numbers of strokes up to it."""
        moment, name = nth_stroke(house, n, *bells)
        at = Fraction(*moment)
        meant = bells or house.bells()
        striking = [row[0] for row in rows_of(house, meant) if ((row[1] + row[2] * at) / row[3]).denominator == 1]
        until = counted(house, at, meant)
        self.assertIn(name, striking)
        self.assertEqual(until - len(striking) + sorted(striking).index(name), n)
        self.assertEqual(count_strokes(house, moment, *bells), until)
        return moment, name


class ExampleTest(StrokesTest):
    def test_example(self):
        house = House("yard")
        house.hang("gong", "yard", step=(2, 1))
        house.hang("bell", "yard", step=(3, 1))
        self.assertEqual(nth_stroke(house, 10 ** 18), ((1200000000000000002, 1), "gong"))
        expected = [((2, 1), "gong"), ((3, 1), "bell"), ((4, 1), "gong"), ((6, 1), "bell")]
        self.assertEqual([nth_stroke(house, 0), nth_stroke(house, 1), nth_stroke(house, 2), nth_stroke(house, 3)], expected)
        self.assertEqual(list(first_strokes(house, 4)), expected)
        self.assertEqual(nth_stroke(house, 4), ((6, 1), "gong"))

    def test_by_name(self):
        house = belfry()
        self.assertEqual(count_strokes(house=house, amount=(3, 1)), count_strokes(house, (3, 1)))
        self.assertEqual(count_strokes(amount=(3, 1), house=house), count_strokes(house, (3, 1)))
        self.assertEqual(nth_stroke(n=2, house=house), nth_stroke(house, 2))
        self.assertEqual(list(first_strokes(most=2, house=house)), list(first_strokes(house, 2)))


class ListedTest(StrokesTest):
    def test_all_bells(self):
        self.check_listed(belfry(), 30, [])

    def test_by_hand(self):
        house = belfry()
        # yard 7/2, hall 4 with rate 2/3, nook 1/3 with rate 10/3
        expected = [
            ((19, 20), "peal"), ((1, 1), "gong"), ((2, 1), "peal"), ((5, 2), "bass"), ((5, 2), "gong"), ((3, 1), "alto"),
        ]
        self.assertEqual([(pair(Fraction(moment)), name) for moment, name in listed(house, 3, house.bells())], expected)
        self.assertEqual(self.check_listed(house, 3, []), expected)
        self.assertEqual([nth_stroke(house, n, "gong", "bass") for n in range(4)],
                         [((1, 1), "gong"), ((5, 2), "bass"), ((5, 2), "gong"), ((4, 1), "gong")])

    def test_one_bell_several_one_of_them_twice(self):
        for bells in (["gong"], ["bass"], ["alto"], ["peal"], ["gong", "bass"], ["bass", "gong"], ["peal", "alto", "gong"],
                      ["gong", "gong"], ["peal", "bass", "peal", "peal"], ["dumb", "gong"], ["dumb", "gong", "dumb"]):
            self.check_listed(belfry(), 25, bells)
        self.assertEqual(count_strokes(belfry(), (10, 1), "bass", "bass"), count_strokes(belfry(), (10, 1), "bass"))
        self.assertEqual(count_strokes(belfry(), (10 ** 6, 1), "dumb"), 0)

    def test_several_at_one_moment_stand_in_the_order_of_their_names(self):
        house = read(
            "house yard 0", "room hall yard 2 1 0", "bell a yard 1/2", "bell b hall 4", "bell c yard 1", "bell d hall 2")
        names = [name for _, name in first_strokes(house, 12)]
        self.assertEqual(names, list("aacda" + "abcda" + "ac"))
        self.check_listed(house, 9, [])
        self.check_listed(house, 9, ["d", "a", "c"])

    def test_the_amount_counts_and_the_present_does_not(self):
        house = House("yard")
        house.hang("gong", "yard", step=(2, 1))
        for amount, many in (((1, 10 ** 30), 0), ((199, 100), 0), ((2, 1), 1), ((399, 100), 1), ((4, 1), 2)):
            self.assertEqual(count_strokes(house, amount), many)
        house.wait((4, 1))
        for amount, many in (((199, 100), 0), ((2, 1), 1), ((4, 1), 2)):
            self.assertEqual(count_strokes(house, amount), many)
        self.assertEqual(nth_stroke(house, 0), ((2, 1), "gong"))

    def test_hung_when_the_clock_showed_a_multiple(self):
        house = House("yard")
        house.build("hall", "yard", pace=(3, 1))
        house.wait((2, 1))
        house.hang("gong", "hall", step=(3, 1))
        house.hang("bell", "hall", step=(4, 1))
        self.assertEqual(list(first_strokes(house, 4)), [((2, 3), "bell"), ((1, 1), "gong"), ((2, 1), "bell"), ((2, 1), "gong")])
        self.check_listed(house, 12, [])

    def test_a_room_that_stood_still_at_a_multiple(self):
        house = House("yard")
        house.build("hall", "yard", pace=(1, 1))
        house.hang("gong", "hall", step=(2, 1))
        house.wait((2, 1))
        house.set_pace("hall", (0, 1))
        house.wait((5, 1))
        check_error(self, Silent, {"names": ("gong",)}, lambda: nth_stroke(house, 0), house)
        house.set_pace("hall", (1, 2))
        self.assertEqual(nth_stroke(house, 0), ((4, 1), "gong"))
        self.assertEqual(count_strokes(house, (399, 100)), 0)

    def test_moments_are_those_of_the_outermost_room_for_every_viewpoint(self):
        house = belfry()
        expected = list(first_strokes(house, 20))
        for room in house.rooms():
            house.viewpoint = room
            self.assertEqual(list(first_strokes(house, 20)), expected)
            self.assertEqual(count_strokes(house, (20, 1)), counted(belfry(), 20, house.bells()))

    def test_after_waits_and_changes_of_paces(self):
        house = belfry()
        for deed in [
            ("wait", (5, 7), None), ("pace", "hall", (7, 3)), ("wait", (2, 1), "hall"), ("carry", "nook", "yard"),
            ("pace", "shed", (1, 60)), ("hang", "toll", "shed", (1, 13)), ("wait", (13, 5), "ann"), ("pace", "nook", (0, 1)),
        ]:
            house.do(deed)
            self.check_listed(house, 8, [])
            self.check_listed(house, 8, ["dumb", "alto"])

    def test_random_houses(self):
        chance = random.Random(81)
        for _ in range(60):
            house = random_house(chance)
            bells = [chance.choice(house.bells()) for _ in range(chance.randint(0, 4))] if house.bells() else []
            self.check_listed(house, chance.randint(1, 12), bells)


class WaitTest(StrokesTest):
    def test_the_strokes_among_the_events_of_a_wait(self):
        chance = random.Random(82)
        done = 0
        while done < 80:
            house = random_house(chance)
            house.viewpoint = house.outermost
            begin, amount = Fraction(*house.moment), random_number(chance, 12)
            twin = house.copy()
            try:
                events = twin.wait(amount)
            except (NeverReached, TooMany):
                continue
            done += 1
            rung = [(pair(Fraction(*event[0]) - begin), event[2]) for event in events if event[1] == "stroke"]
            self.assertEqual(count_strokes(house, amount), len(rung))
            self.assertEqual(list(first_strokes(house, len(rung))), rung)
            self.assertEqual([nth_stroke(house, n) for n in range(len(rung))], rung)
            for bell in house.bells():
                own = [row for row in rung if row[1] == bell]
                self.assertEqual(count_strokes(house, amount, bell), len(own))
                self.assertEqual(list(first_strokes(house, len(own), bell)), own)

    def test_a_wait_shifts_the_numbers(self):
        chance = random.Random(83)
        for _ in range(20):
            house = random_house(chance)
            amount = (5, 3)
            if not rows_of(house, house.bells()):
                continue
            many = count_strokes(house, amount)
            expected = [nth_stroke(house, many + n) for n in range(5)]
            house.wait(amount, by=house.outermost)
            found = [nth_stroke(house, n) for n in range(5)]
            self.assertEqual([name for _, name in found], [name for _, name in expected])
            self.assertEqual([pair(Fraction(*moment) + Fraction(5, 3)) for moment, _ in found],
                             [moment for moment, _ in expected])


class FarTest(StrokesTest):
    def test_far_numbers(self):
        for n in (0, 1, 999, 10 ** 6, 10 ** 12 + 7, GREATEST - 1, GREATEST):
            self.check_far(belfry(), n)
            self.check_far(belfry(), n, "gong", "bass")
            self.check_far(belfry(), n, "dumb", "peal", "peal")
        # Alone, a bell strikes in equal spans.
        self.assertEqual(nth_stroke(belfry(), GREATEST, "gong"), ((1 + 3 * GREATEST // 2, 1), "gong"))

    def test_random_far_numbers(self):
        chance = random.Random(84)
        done = 0
        while done < 40:
            house = random_house(chance)
            if rows_of(house, house.bells()):
                done += 1
                for _ in range(5):
                    self.check_far(house, chance.randint(0, 10 ** chance.randint(0, 18)))

    def test_long_amounts(self):
        house = belfry()
        for amount in (10 ** 15, 10 ** 15 + Fraction(1, 3), Fraction(10 ** 15, 7), 10 ** 399 + Fraction(1, 10 ** 399 + 1)):
            amount = Fraction(amount)
            self.assertEqual(count_strokes(house, pair(amount)), counted(house, amount, house.bells()))
            self.assertEqual(count_strokes(house, pair(amount), "alto"), counted(house, amount, ["alto"]))
        self.assertEqual(count_strokes(house, (10 ** 15, 1), "gong"), (10 ** 15 * 2 + 1) // 3)

    def full_house(self):
        """Rooms each in the one before, paces and readings with many digits, as many bells as there may be."""
        chance = random.Random(85)
        lines = ["house yard " + "8" * 400]
        around = "yard"
        for room in "abcdefghi":
            pace = number_text(random_number(chance, 60))
            reading = number_text(number(chance.randrange(10 ** 399), 2 ** chance.randint(1300, 1320)))
            lines.append(f"room {room} {around} {pace} 1 {reading}")
            around = room
        for bell, room in zip(("ba", "bb", "bc", "bd", "be", "bf", "bg", "bh"), "bcdefghi"):
            lines.append(f"bell {bell} {room} {number_text(number(chance.randint(1, 999999), chance.randint(1, 999)))}")
        return read(*lines)

    def test_in_a_moments_time(self):
        house = self.full_house()
        begin = time.process_time()
        for n in (GREATEST, GREATEST - 10 ** 9, 3):
            self.check_far(house, n)
        self.assertEqual(count_strokes(house, (10 ** 15, 1)), counted(house, 10 ** 15, house.bells()))
        self.assertEqual(len(list(first_strokes(house, 1000))), 1000)
        self.assertLess(time.process_time() - begin, 5)


class FirstStrokesTest(StrokesTest):
    def test_none(self):
        self.assertEqual(list(first_strokes(belfry(), 0)), [])
        self.assertEqual(list(first_strokes(belfry(), 0, "gong")), [])

    def test_a_thousand(self):
        for house in (belfry(), small_house()):
            found = list(first_strokes(house, 1000))
            self.assertEqual(len(found), 1000)
            last = Fraction(*found[-1][0])
            expected = [(pair(moment), name) for moment, name in listed(house, last, house.bells())]
            self.assertEqual(found, expected[:1000])
            self.assertEqual(found[999], nth_stroke(house, 999))

    def test_where_no_room_runs(self):
        house = belfry()
        self.assertEqual(list(first_strokes(house, 1000, "dumb")), [])
        self.assertEqual(list(first_strokes(House("yard"), 1000)), [])
        house.set_pace("hall", (0, 1))
        self.assertEqual(list(first_strokes(house, 1000, "dumb", "peal", "alto")), [])
        self.assertEqual({name for _, name in first_strokes(house, 50)}, {"bass", "gong"})

    def test_partly_asked(self):
        house = belfry()
        before = all_with_past(house)
        coming = first_strokes(house, 3)
        self.assertEqual(next(coming), ((19, 20), "peal"))
        self.assertEqual(all_with_past(house), before)
        self.assertEqual(list(coming), [((1, 1), "gong"), ((2, 1), "peal")])
        with self.assertRaises(StopIteration):
            next(coming)


def asked(house, most, *bells):
    return next(first_strokes(house, most, *bells), None)


class ErrorTest(StrokesTest):
    def test_no_bells(self):
        for house in (small_house(), House("yard")):
            for thing in NO_BELLS:
                for call in (
                    lambda: count_strokes(house, (1, 1), thing), lambda: nth_stroke(house, 0, thing),
                    lambda: asked(house, 0, thing), lambda: asked(house, 1000, thing),
                    lambda: nth_stroke(house, 0, thing, None, "hall"),
                ):
                    check_error(self, NoBell, {"name": thing}, call, house)
        house = belfry()
        for thing in ("none", None, ["gong"]):
            for bells in (["gong", thing], ["dumb", thing, "nobell"], ["gong", "gong", thing, 0]):
                for call in (lambda: count_strokes(house, (1, 1), *bells), lambda: nth_stroke(house, 0, *bells),
                             lambda: asked(house, 3, *bells)):
                    check_error(self, NoBell, {"name": thing}, call, house)

    def test_amounts(self):
        house = belfry()
        for amount in NO_AMOUNTS:
            for bells in ([], ["gong"], ["none"], [None], ["gong", "none"], ["dumb"]):
                check_error(self, InvalidAmount, {"amount": amount}, lambda: count_strokes(house, amount, *bells), house)

    def test_counts(self):
        house = belfry()
        for bells in ([], ["gong"], ["none"], [None], ["gong", "none"], ["dumb"]):
            for n in NO_COUNTS + [GREATEST + 1, 10 ** 399]:
                check_error(self, InvalidCount, {"count": n}, lambda: nth_stroke(house, n, *bells), house)
            for most in NO_COUNTS + [1001, 10 ** 18]:
                check_error(self, InvalidCount, {"count": most}, lambda: asked(house, most, *bells), house)

    def test_silent(self):
        house = belfry()
        for bells, names in [(["dumb"], ("dumb",)), (["dumb", "dumb"], ("dumb",))]:
            check_error(self, Silent, {"names": names}, lambda: nth_stroke(house, 5, *bells), house)
        house.set_pace("hall", (0, 1))
        for bells, names in [
            (["peal", "dumb", "alto", "dumb"], ("alto", "dumb", "peal")), (["peal"], ("peal",)), (["alto", "peal"], ("alto", "peal")),
        ]:
            check_error(self, Silent, {"names": names}, lambda: nth_stroke(house, GREATEST, *bells), house)
        other = read("house yard 0", "room hall yard 0 1 0", "bell a hall 1", "bell z hall 2")
        check_error(self, Silent, {"names": ("a", "z")}, lambda: nth_stroke(other, 0), other)
        check_error(self, Silent, {"names": ()}, lambda: nth_stroke(House("yard"), 0))
        check_error(self, InvalidCount, {"count": -1}, lambda: nth_stroke(House("yard"), -1))
        check_error(self, NoBell, {"name": "b"}, lambda: nth_stroke(other, 0, "a", "b"), other)
        self.assertEqual(count_strokes(other, (5, 1)), 0)


class PlaceTest(unittest.TestCase):
    def test_defined_in_this_file(self):
        for function in (count_strokes, nth_stroke, first_strokes):
            self.assertEqual(function.__module__, strokes.__name__)


if __name__ == "__main__":
    unittest.main()
