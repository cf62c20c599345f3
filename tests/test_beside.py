"""What the modules promise beside each other: deeds, waits, trials and previews, told by texts, strokes and meetings."""

import random
import unittest
from fractions import Fraction

from roompace.errors import (
    Apart, DoorBusy, Full, InsideItself, InvalidAmount, InvalidName, InvalidNumber, InvalidPace, InvalidReading, NameTaken,
    NeverReached, NeverTogether, NoAlarm, NoRoom, NotNextDoor, NoTimekeeper, Outermost, Silent, TooLong, TooMany, Walking,
)
from roompace.house import House
from roompace.meetings import first_equal, meet
from roompace.numbers import add, compare, subtract
from roompace.past import convert, forecast
from roompace.previews import events
from roompace.strokes import count_strokes, first_strokes, nth_stroke
from roompace.texts import house_text
from roompace.together import together
from roompace.trials import Trial, tried
from roompace.views import View
from tests.helpers import all_with_past, check_error, past_of, read, small_house
from tests.model import pair, random_deed, random_house, random_number

TEXT = [
    "house yard 0", "room hall yard 1/2 3 0", "room nook hall 5/3 1/4 0", "room shed yard 0 1 0", "person ann yard 1 0",
    "person bob hall 2 0", "bell gong hall 7/2", "alarm cook yard 100",
]


def answers(house):
    """What all questions about the future of a house answer, errors included."""
    names = house.rooms() + house.people()
    told = [house_text(house)]
    for ask in (
        lambda: [first_equal(house, first, second) for first in names for second in names],
        lambda: [meet(house, person) for person in house.people()], lambda: meet(house, *house.people()),
        lambda: count_strokes(house, (50, 1)), lambda: [nth_stroke(house, n) for n in (0, 7, 10 ** 18)],
        lambda: list(first_strokes(house, 20)), lambda: together(house),
    ):
        try:
            told.append(ask())
        except (Apart, Silent, NeverTogether) as error:
            told.append((error.__class__, sorted(vars(error).items())))
    return told


class QuestionTest(unittest.TestCase):
    def test_nothing_changes_by_a_question(self):
        chance = random.Random(111)
        for _ in range(30):
            house = random_house(chance)
            before = all_with_past(house)
            first = answers(house)
            self.assertEqual(all_with_past(house), before)
            self.assertEqual(answers(house), first)
            self.assertEqual(answers(house.copy()), first)

    def test_an_error_is_raised_when_the_first_item_is_asked_for(self):
        house = small_house()
        asked = [first_strokes(house, -1), first_strokes(house, 3, "none"), events(house, (0, 1)), house.rooms_inside("none")]
        for coming in asked:
            with self.assertRaises((ValueError, LookupError)):
                next(coming)


class TrialTest(unittest.TestCase):
    def house(self):
        house = small_house()
        house.wait((2, 1))
        house.walk("bob", "nook")
        house.viewpoint = "hall"
        return house

    def deeds(self):
        return [
            ("build", "loft", "hall", (2, 1), (1, 1)), ("pace", "hall", (0, 1)), ("wait", (4, 1), "yard"),
            ("pace", "hall", (3, 1)), ("come", "cid", "loft", (1, 2)), ("walk", "cid", "hall"), ("hang", "bell", "loft", (1, 1)),
            ("alarm", "wake", "cid", (1, 2)), ("cancel", "cook"), ("wait", (9, 1), "ann"), ("carry", "loft", "shed"),
        ]

    def test_text_viewpoint_readings_and_past_are_those_from_before(self):
        house = self.house()
        text, past, told = house_text(house), past_of(house), answers(house)
        with Trial(house):
            for deed in self.deeds():
                house.do(deed)
                self.assertNotEqual(house_text(house), text)
            house.viewpoint = "loft"
            self.assertNotEqual(answers(house), told)
            self.assertEqual(convert(house, (1, 1), "hall", "yard"), ((2, 1), (6, 1)))
        self.assertEqual((house_text(house), house.viewpoint, past_of(house)), (text, "hall", past))
        self.assertEqual(answers(house), told)
        self.assertEqual(convert(house, (1, 1), "hall", "yard"), ((2, 1), (2, 1)))
        self.assertEqual(house.timekeeper("ann").shown(), "ann 2 in yard")

    def test_tried(self):
        house = self.house()
        text, past = house_text(house), past_of(house)
        found = tried(house, *self.deeds())
        self.assertEqual((house_text(house), house.viewpoint, past_of(house)), (text, "hall", past))
        twin = house.copy()
        self.assertEqual(found, tuple([twin.do(deed) for deed in self.deeds()]))
        self.assertNotEqual(house_text(twin), text)

    def test_after_an_error(self):
        house = self.house()
        text, past = house_text(house), past_of(house)
        check_error(self, Outermost, {"room": "yard"}, lambda: tried(house, *self.deeds(), ("pace", "yard", (1, 1))), house)
        with self.assertRaises(NoRoom):
            with Trial(house):
                house.wait((3, 1))
                with View(house, "nook"):
                    house.walk("ann", "attic")
        self.assertEqual((house_text(house), house.viewpoint, past_of(house)), (text, "hall", past))

    def test_strokes_that_are_tried(self):
        house = self.house()
        expected = [(forecast(house, add(house.moment, moment), "yard", "hall"), name)
                    for moment, name in first_strokes(house, 4)]
        rung = tried(house, ("wait", (30, 1), "yard"))[0]
        self.assertEqual([(event[0], event[2]) for event in rung if event[1] == "stroke"], expected)


class DeedTest(unittest.TestCase):
    """Each deed changes its own lines of the text, and none if it raises an error."""

    def check_deed(self, deed, gone, come):
        house = small_house()
        expected = sorted([line for line in TEXT if line not in gone] + come)
        with Trial(house):
            self.assertIsNone(house.do(deed))
            self.assertEqual(sorted(house_text(house).split("\n")), expected)
        self.assertEqual(house_text(house).split("\n"), TEXT)
        self.assertEqual(tried(house, deed), (None,))
        self.assertEqual(house_text(house).split("\n"), TEXT)

    def test_effects(self):
        self.check_deed(("build", "loft", "shed", (60, 59), (7, 9)), [], ["room loft shed 60/59 7/9 0"])
        self.check_deed(("pace", "hall", (0, 1)), [TEXT[1]], ["room hall yard 0 3 0"])
        self.check_deed(("carry", "nook", "shed"), [TEXT[2]], ["room nook shed 5/3 1/4 0"])
        self.check_deed(("carry", "hall", "shed"), [TEXT[1]], ["room hall shed 1/2 3 0"])
        self.check_deed(("carry", "hall", "yard"), [], [])
        self.check_deed(("come", "cid", "nook", (1, 60)), [], ["person cid nook 1/60 0"])
        self.check_deed(("walk", "ann", "hall"), [TEXT[4]], ["person ann yard 1 0 to hall 3"])
        self.check_deed(("walk", "bob", "nook"), [TEXT[5]], ["person bob hall 2 0 to nook 1/4"])
        self.check_deed(("hang", "bell", "shed", (1, 999)), [], ["bell bell shed 1/999"])
        self.check_deed(("alarm", "wake", "bob", (1, 3)), [], ["alarm wake bob 1/3"])
        self.check_deed(("cancel", "cook"), [TEXT[7]], [])

    def test_errors_of_rooms_and_paces(self):
        house = small_house()
        house.walk("bob", "nook")
        house.walk("ann", "hall")
        for deed, error, fields in [
            (("build", "Loft", "attic", (61, 1), (0, 1)), InvalidName, {"name": "Loft"}),
            (("build", "gong", "attic", (61, 1), (0, 1)), NameTaken, {"name": "gong"}),
            (("build", "loft", "attic", (61, 1), (0, 1)), NoRoom, {"room": "attic"}),
            (("build", "loft", "hall", (61, 1), (0, 1)), InvalidPace, {"pace": (61, 1)}),
            (("build", "loft", "hall", (0, 1), (0, 1)), InvalidNumber, {"thing": (0, 1)}),
            (("pace", "attic", (61, 1)), NoRoom, {"room": "attic"}), (("pace", "yard", (61, 1)), Outermost, {"room": "yard"}),
            (("pace", "hall", (-1, 1)), InvalidPace, {"pace": (-1, 1)}),
            (("carry", "attic", "loft"), NoRoom, {"room": "attic"}), (("carry", "yard", "loft"), NoRoom, {"room": "loft"}),
            (("carry", "yard", "yard"), Outermost, {"room": "yard"}), (("carry", "hall", "hall"), InsideItself, {"room": "hall"}),
            (("carry", "hall", "nook"), InsideItself, {"room": "hall"}), (("carry", "hall", "shed"), DoorBusy, {"person": "ann"}),
            (("carry", "nook", "yard"), DoorBusy, {"person": "bob"}),
        ]:
            check_error(self, error, fields, lambda: house.do(deed), house)
            check_error(self, error, fields, lambda: tried(house, deed), house)

    def test_the_tenth_room(self):
        house = House("yard")
        for room in "abcdefghi":
            house.build(room, "yard")
        check_error(self, Full, {"limit": 10}, lambda: house.build("j", "yard"), house)

    def test_paces_set_at_once(self):
        house = small_house()
        house.set_paces(nook=(2, 1), hall=(0, 1), shed=(1, 7))
        self.assertEqual(house_text(house).split("\n")[1:4],
                         ["room hall yard 0 3 0", "room nook hall 2 1/4 0", "room shed yard 1/7 1 0"])
        check_error(self, InvalidPace, {"pace": (2, 4)}, lambda: house.set_paces(hall=(1, 1), shed=(2, 4), attic=(1, 1)), house)
        check_error(self, NoRoom, {"room": "attic"}, lambda: house.set_paces(hall=(1, 1), attic=(2, 4), yard=(1, 1)), house)
        self.assertIsNone(house.set_paces())

    def test_paces_and_carries_in_strokes(self):
        house = small_house()
        self.assertEqual(nth_stroke(house, 0), ((7, 1), "gong"))
        house.set_pace("hall", (7, 1))
        self.assertEqual(nth_stroke(house, 0), ((1, 2), "gong"))
        house.carry("hall", "shed")
        check_error(self, Silent, {"names": ("gong",)}, lambda: nth_stroke(house, 0), house)
        house.set_paces(shed=(1, 14))
        self.assertEqual(nth_stroke(house, 0), ((7, 1), "gong"))


class WalkTest(unittest.TestCase):
    def test_a_walk_from_its_begin_to_its_end(self):
        house = small_house()
        house.wait((1, 1))
        house.walk("bob", "yard")
        self.assertIn("person bob hall 2 1 to yard 7/2", house_text(house))
        check_error(self, Apart, {"person": "bob"}, lambda: meet(house, "ann", "bob"), house)
        # Both grow by 1 in a moment until Bob arrives after 6 moments; then he grows by 2.
        self.assertEqual(first_equal(house, "bob", "hall"), None)
        self.assertEqual(first_equal(house, "ann", "bob"), (1, 1))
        self.assertEqual(forecast(house, (8, 1), "yard", "bob"), (9, 1))
        house.wait((6, 1))
        self.assertEqual(meet(house, "bob", "ann"), ((7, 1), (7, 1)))
        self.assertIn("person bob yard 2 7\n", house_text(house))

    def test_errors(self):
        house = small_house()
        house.walk("ann", "hall")
        for person, room, error, fields in [
            ("ann", "shed", Walking, {"person": "ann"}), ("bob", "shed", NotNextDoor, {"room": "shed"}),
            ("bob", "hall", NotNextDoor, {"room": "hall"}), ("bob", "ann", NoRoom, {"room": "ann"}),
        ]:
            check_error(self, error, fields, lambda: house.walk(person, room), house)

    def test_a_room_that_stands_still_is_not_left(self):
        house = small_house()
        house.come("eve", "shed")
        house.walk("eve", "yard")
        house.wait((1000, 1))
        self.assertIn("person eve shed 1 0 to yard 1\n", house_text(house))
        self.assertEqual(meet(house, "eve"), ((0, 1),))
        self.assertIsNone(first_equal(house, "eve", "yard"))
        house.set_pace("shed", (1, 2))
        self.assertEqual(house.wait((2, 1)), (((1001, 1), "stroke", "gong", "hall"), ((1002, 1), "arrival", "eve", "yard")))


class AlarmTest(unittest.TestCase):
    def test_from_its_setting_to_its_ringing(self):
        house = small_house()
        house.set_alarm("wake", "ann", (2, 1))
        check_error(self, NameTaken, {"name": "wake"}, lambda: house.hang("wake", "hall"), house)
        self.assertEqual(house.wait((2, 1)), (((2, 1), "alarm", "wake", "ann"),))
        self.assertNotIn("wake", house_text(house))
        check_error(self, NoAlarm, {"name": "wake"}, lambda: house.cancel("wake"), house)
        check_error(self, InvalidReading, {"reading": (2, 1)}, lambda: house.set_alarm("wake", "ann", (2, 1)), house)
        house.hang("wake", "yard", step=(2, 1))
        self.assertEqual(nth_stroke(house, 0, "wake"), ((2, 1), "wake"))
        house.cancel("cook")
        house.come("cook", "yard")
        self.assertEqual(meet(house, "ann", "cook"), ((2, 1), (0, 1)))

    def test_many(self):
        house = small_house()
        for k in range(11):
            house.set_alarm("a" * (k % 8) + "bc"[k // 8], "bob", (k + 1, 1))
        check_error(self, Full, {"limit": 12}, lambda: house.set_alarm("last", "bob", (1, 1)), house)
        self.assertEqual(len(house.wait((5, 1))), 5)
        house.set_alarm("last", "bob", (6, 1))


class WaitTest(unittest.TestCase):
    def test_cut_waits(self):
        chance = random.Random(112)
        done = 0
        while done < 40:
            house = random_house(chance)
            by, amount = chance.choice(house.rooms() + house.people()), random_number(chance, 12)
            whole, cut = house.copy(), house.copy()
            try:
                expected = whole.wait(amount, by=by)
            except (NeverReached, TooMany):
                continue
            done += 1
            part = pair(Fraction(*amount) * Fraction(chance.randint(1, 6), 7))
            found = cut.wait(part, by=by)
            found += cut.wait(subtract(amount, part), by=by)
            self.assertEqual(found, expected)
            self.assertEqual(house_text(cut), house_text(whole))
            self.assertEqual(answers(cut), answers(whole))
            self.assertEqual(past_of(cut), past_of(whole))

    def test_an_event_at_the_cut_belongs_to_the_first_wait(self):
        house = small_house()
        moment, name = nth_stroke(house, 0)
        self.assertEqual(house.wait(moment), (((7, 1), "stroke", name, "hall"),))
        self.assertEqual(nth_stroke(house, 0), ((7, 1), "gong"))
        self.assertEqual(house.wait((699, 100)), ())

    def test_refused_waits(self):
        house = small_house()
        house.walk("ann", "shed")
        house.hang("fast", "nook", step=(1, 600))
        for amount, by, error, fields in [
            ((0, 1), "none", InvalidAmount, {"amount": (0, 1)}), ((1, 1), "none", NoTimekeeper, {"name": "none"}),
            ((1, 1), "shed", NeverReached, {"name": "shed"}), ((3, 2), "ann", NeverReached, {"name": "ann"}),
            ((10 ** 400, 1), "shed", NeverReached, {"name": "shed"}),
            ((101, 100), None, TooMany, {"limit": 500}), ((10 ** 400, 1), None, TooMany, {"limit": 500}),
        ]:
            past = past_of(house)
            for do in (lambda: house.wait(amount, by=by), lambda: house.do(("wait", amount, by)),
                       lambda: tried(house, ("wait", (1, 4), "yard"), ("wait", amount, by)),
                       lambda: list(events(house, amount, by=by))):
                check_error(self, error, fields, do, house)
            self.assertEqual(past_of(house), past)
        other = read("house yard 0", "room hall yard 1/60 1 0", "person ann hall 3 0")
        check_error(self, TooLong, {"limit": 400}, lambda: other.wait((10 ** 400, 1)), other)
        check_error(self, TooLong, {"limit": 400}, lambda: other.wait((1, 10 ** 399)), other)
        self.assertEqual(other.wait((1, 10 ** 398)), ())

    def test_the_limit_of_strokes_is_told_by_their_count(self):
        house = small_house()
        house.hang("fast", "yard", step=(1, 100))
        # Ann's alarm is among the events, too.
        house.set_alarm("wake", "ann", (1, 1))
        moment = nth_stroke(house, 498)[0]
        self.assertEqual(count_strokes(house, moment), 499)
        self.assertEqual(len(house.copy().wait(moment)), 500)
        later = nth_stroke(house, 499)[0]
        check_error(self, TooMany, {"limit": 500}, lambda: house.wait(later), house)


class PreviewTest(unittest.TestCase):
    def test_previews_waits_and_strokes_agree(self):
        chance = random.Random(113)
        done = 0
        while done < 40:
            house = random_house(chance)
            amount = random_number(chance, 12)
            before = all_with_past(house)
            try:
                found = list(events(house, amount, by="yard"))
            except TooMany:
                continue
            done += 1
            self.assertEqual(all_with_past(house), before)
            rung = [event for event in found if event[1] == "stroke"]
            self.assertEqual(count_strokes(house, amount), len(rung))
            for n, event in enumerate(rung):
                moment, name = nth_stroke(house, n)
                # The reading of an event is the one of the clock of the viewpoint.
                shown = forecast(house, add(house.moment, moment), house.outermost, house.viewpoint)
                self.assertEqual((event[0], event[2], event[3]), (shown, name, house.bell(name)[0]))
            self.assertEqual(tuple(found), house.wait(amount, by="yard"))


class ForecastTest(unittest.TestCase):
    def test_forecasts_and_equal_readings_agree(self):
        chance = random.Random(114)
        met = 0
        for _ in range(25):
            house = random_house(chance)
            names = house.rooms() + house.people()
            for first in names:
                for second in names:
                    reading = first_equal(house, first, second)
                    if reading is None:
                        continue
                    met += reading != house.timekeeper(first).time
                    moments = [forecast(house, reading, name, house.outermost) for name in (first, second)]
                    last = moments[0] if compare(moments[0], moments[1]) > 0 else moments[1]
                    self.assertEqual(forecast(house, last, house.outermost, first), reading)
                    self.assertEqual(forecast(house, last, house.outermost, second), reading)
        self.assertGreater(met, 20)

    def test_never_reached(self):
        house = small_house()
        house.walk("ann", "shed")
        self.assertEqual(forecast(house, (1, 1), "ann", "hall"), (1, 2))
        check_error(self, NeverReached, {"name": "ann"}, lambda: forecast(house, (11, 10), "ann", "hall"), house)
        house.wait((5, 1))
        self.assertIn("person ann shed 1 1\n", house_text(house))


class ReadTest(unittest.TestCase):
    def test_led_on_and_read_from_the_text(self):
        chance = random.Random(115)
        for _ in range(25):
            house = random_house(chance)
            again = House.read(house_text(house))
            self.assertEqual(again.viewpoint, again.outermost)
            again.viewpoint = house.viewpoint
            self.assertEqual(answers(again), answers(house))
            for _ in range(8):
                deed = random_deed(chance, house)
                if chance.random() < 0.4:
                    deed = ("wait", random_number(chance, 8), chance.choice((None,) + house.rooms()))
                told = []
                for each in (house, again):
                    try:
                        told.append(each.do(deed))
                    except (ValueError, RuntimeError, LookupError) as error:
                        told.append((error.__class__, sorted(vars(error).items())))
                self.assertEqual(told[0], told[1])
                self.assertEqual(house_text(again), house_text(house))
            self.assertEqual(answers(again), answers(house))


if __name__ == "__main__":
    unittest.main()
