"""Points [8], [24] and [25], and the section "roompace/texts.py"."""

import random
import unittest
from fractions import Fraction

from roompace import texts
from roompace.house import House
from roompace.texts import house_text
from tests.helpers import all_with_past, small_house
from tests.model import random_house


class TextTest(unittest.TestCase):
    def check(self, house, *lines):
        before = all_with_past(house)
        text = "\n".join(lines)
        self.assertEqual(house_text(house), text)
        self.assertEqual(house_text(house=house), text)
        again = House.read(text)
        self.assertTrue(again == house)
        self.assertEqual(house_text(again), text)
        self.assertEqual(all_with_past(house), before)

    def test_example(self):
        house = House("yard")
        house.build("hall", "yard", pace=(1, 2))
        house.come("ann", "yard")
        house.walk("ann", "hall")
        self.assertEqual(house_text(house), "house yard 0\nroom hall yard 1/2 1 0\nperson ann yard 1 0 to hall 1")

    def test_one_room(self):
        house = House("yard")
        self.check(house, "house yard 0")
        house.wait((7, 3))
        self.check(house, "house yard 7/3")
        self.check(House("a"), "house a 0")
        house.hang("gong", "yard", step=(999999, 998))
        house.come("ann", "yard", factor=(59, 60))
        self.check(house, "house yard 7/3", "person ann yard 59/60 0", "bell gong yard 999999/998")

    def test_every_kind_of_line(self):
        house = small_house()
        house.set_alarm("wake", "bob", (13, 7))
        house.hang("bell", "shed", step=(5, 1))
        house.wait((1, 1))
        house.walk("bob", "nook")
        self.check(
            house, "house yard 1", "room hall yard 1/2 3 1/2", "room nook hall 5/3 1/4 5/6", "room shed yard 0 1 0",
            "person ann yard 1 1", "person bob hall 2 1 to nook 3/4", "bell bell shed 5", "bell gong hall 7/2",
            "alarm cook yard 100", "alarm wake bob 13/7",
        )

    def test_rooms_in_the_order_of_rooms_inside(self):
        house = House("m")
        for room, around in [("z", "m"), ("a", "z"), ("b", "m"), ("y", "b"), ("c", "b"), ("k", "c"), ("x", "z")]:
            house.build(room, around)
        self.check(
            house, "house m 0", "room b m 1 1 0", "room c b 1 1 0", "room k c 1 1 0", "room y b 1 1 0", "room z m 1 1 0",
            "room a z 1 1 0", "room x z 1 1 0",
        )
        self.assertEqual([line.split(" ")[1] for line in house_text(house).split("\n")[1:]], list(house.rooms_inside("m")))

    def test_people_bells_alarms_ascending(self):
        house = House("m")
        house.build("b", "m")
        for name in ("z", "c", "y", "a"):
            house.come(name, "m" if name < "m" else "b")
            house.hang(name * 2, "b" if name < "m" else "m")
            house.set_alarm(name * 3, name, (2, 1))
        self.check(
            house, "house m 0", "room b m 1 1 0", "person a m 1 0", "person c m 1 0", "person y b 1 0", "person z b 1 0",
            "bell aa b 1", "bell cc b 1", "bell yy m 1", "bell zz m 1", "alarm aaa a 2", "alarm ccc c 2", "alarm yyy y 2",
            "alarm zzz z 2",
        )

    def test_walks_under_way(self):
        house = House("yard")
        house.build("hall", "yard", pace=(1, 3), way=(5, 2))
        house.come("ann", "yard", factor=(2, 1))
        house.come("bob", "hall")
        house.wait((1, 1))
        house.walk("ann", "hall")
        house.walk("bob", "yard")
        self.check(house, "house yard 1", "room hall yard 1/3 5/2 1/3", "person ann yard 2 2 to hall 7/2",
                   "person bob hall 1 1/3 to yard 17/6")
        house.wait((2, 1))
        self.check(house, "house yard 3", "room hall yard 1/3 5/2 1", "person ann yard 2 6 to hall 7/2",
                   "person bob hall 1 1 to yard 17/6")
        house.wait((1, 2))
        self.check(house, "house yard 7/2", "room hall yard 1/3 5/2 7/6", "person ann hall 2 7",
                   "person bob hall 1 7/6 to yard 17/6")
        house.set_pace("hall", (0, 1))
        house.walk("ann", "yard")
        house.wait((100, 1))
        # Whoever walks from a room that stands still is still on the way.
        self.check(house, "house yard 207/2", "room hall yard 0 5/2 7/6", "person ann hall 2 7 to yard 11/3",
                   "person bob hall 1 7/6 to yard 17/6")
        house.set_pace("hall", (1, 1))
        house.wait((2, 1))
        self.check(house, "house yard 211/2", "room hall yard 1 5/2 19/6", "person ann hall 2 11 to yard 11/3",
                   "person bob yard 1 19/6")

    def test_alarms_that_rang_or_were_cancelled_are_gone(self):
        house = small_house()
        house.set_alarm("wake", "ann", (2, 1))
        house.set_alarm("early", "ann", (1, 1))
        house.cancel("cook")
        house.wait((1, 1), by="ann")
        self.assertEqual([line for line in house_text(house).split("\n") if line.startswith("alarm")], ["alarm wake ann 2"])
        house.wait((1, 1), by="ann")
        self.assertNotIn("alarm", house_text(house))

    def test_rooms_that_were_carried(self):
        house = small_house()
        house.come("eve", "nook")
        house.wait((6, 1))
        house.carry("nook", "shed")
        self.check(
            house, "house yard 6", "room hall yard 1/2 3 3", "room shed yard 0 1 0", "room nook shed 5/3 1/4 5",
            "person ann yard 1 6", "person bob hall 2 6", "person eve nook 1 5", "bell gong hall 7/2", "alarm cook yard 100",
        )
        house.carry("hall", "nook")
        house.carry("shed", "yard")
        self.check(
            house, "house yard 6", "room shed yard 0 1 0", "room nook shed 5/3 1/4 5", "room hall nook 1/2 3 3",
            "person ann yard 1 6", "person bob hall 2 6", "person eve nook 1 5", "bell gong hall 7/2", "alarm cook yard 100",
        )

    def test_the_viewpoint_and_the_past_are_not_told(self):
        house = small_house()
        house.wait((1, 2))
        text = house_text(house)
        house.viewpoint = "nook"
        self.assertEqual(house_text(house), text)
        house.wait((1, 2), by="yard")
        other = small_house()
        other.wait((1, 1))
        self.assertEqual(house_text(house), house_text(other))
        self.assertTrue(house == other)

    def test_no_newline_and_no_space_at_the_ends(self):
        chance = random.Random(101)
        for _ in range(40):
            house = random_house(chance)
            text = house_text(house)
            self.check(house, *text.split("\n"))
            for line in text.split("\n"):
                self.assertEqual(" ".join(line.split()), line)
            self.assertEqual(len(text.split("\n")),
                             len(house) + len(house.people()) + len(house.bells()) + len(house.alarms()))

    def test_what_the_lines_tell(self):
        chance = random.Random(102)
        walks = 0
        for _ in range(40):
            house = random_house(chance)
            for line in house_text(house).split("\n"):
                word, name, *rest = line.split(" ")
                if word in ("house", "room"):
                    clock = house.timekeeper(name)
                    self.assertEqual(Fraction(rest[-1]), Fraction(*clock.time))
                    self.assertEqual(rest[0] if word == "room" else None, clock.around)
                    if word == "room":
                        self.assertEqual(Fraction(rest[1]), Fraction(*clock.pace))
                        self.assertEqual(Fraction(rest[2]), Fraction(*clock.way))
                elif word == "person":
                    watch = house.timekeeper(name)
                    self.assertEqual((rest[0], Fraction(rest[1]), Fraction(rest[2])),
                                     (watch.place, Fraction(*watch.factor), Fraction(*watch.time)))
                    self.assertEqual(rest[4] if len(rest) > 3 else None, watch.goal)
                    walks += len(rest) > 3
                elif word == "bell":
                    self.assertEqual((rest[0], Fraction(rest[1])), (house.bell(name)[0], Fraction(*house.bell(name)[1])))
                else:
                    self.assertEqual((rest[0], Fraction(rest[1])), (house.alarm(name)[0], Fraction(*house.alarm(name)[1])))
        self.assertGreater(walks, 10)

    def test_equal_houses_have_equal_texts(self):
        chance = random.Random(103)
        houses = [random_house(chance, 6) for _ in range(30)] + [small_house(), small_house(), House("yard")]
        for house in houses:
            for other in houses:
                self.assertEqual(house == other, house_text(house) == house_text(other))

    def test_long_readings(self):
        house = House("yard")
        house.wait((10 ** 399, 7))
        self.check(house, "house yard 1" + "0" * 399 + "/7")


class PlaceTest(unittest.TestCase):
    def test_defined_in_this_file(self):
        self.assertEqual(house_text.__module__, texts.__name__)


if __name__ == "__main__":
    unittest.main()
