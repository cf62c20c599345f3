"""House.read: point [25] and the errors that "roompace/parsing.py" tells for parse_house."""

import unittest

from roompace.errors import InvalidNumber, InvalidText
from roompace.house import House
from roompace.lines import state_text
from roompace.parsing import parse_house
from roompace.reading import number_in
from tests.helpers import check_error

WHOLE = [
    "house yard 5/2",
    "room hall yard 1/2 3 4",
    "room nook hall 5/3 1/4 1",
    "room shed yard 0 1 0",
    "person ann hall 3 8 to nook 17/4",
    "person bob nook 1/60 0",
    "person cid yard 60 1/3 to hall 11/2",
    "bell bell shed 999999/998",
    "bell gong hall 7/2",
    "alarm cook yard 100",
    "alarm wake bob 1/1000",
]

BIG = "9" * 400
BIGGER = "1" + "0" * 400


class ReadTest(unittest.TestCase):
    def check_wrong(self, lines, index):
        for reader in (House.read, parse_house):
            check_error(self, InvalidText, {"line": index}, lambda: reader("\n".join(lines)))

    def check_line(self, index, line, good=False):
        """Check whether a line may stand in the place of another one, with the lines before it."""
        lines = WHOLE[:index] + [line]
        if good:
            self.assertEqual(state_text(House.read("\n".join(lines)).state), "\n".join(lines))
        else:
            self.check_wrong(lines, index)
            self.check_wrong(lines + WHOLE[index + 1:], index)

    def test_every_beginning_is_read(self):
        for k in range(1, len(WHOLE) + 1):
            text = "\n".join(WHOLE[:k])
            house = House.read(text)
            self.assertIs(house.__class__, House)
            self.assertEqual(state_text(house.state), text)
            self.assertEqual(state_text(House.read(text=text).state), text)
            self.assertEqual(house.viewpoint, "yard")

    def test_what_was_read(self):
        house = House.read("\n".join(WHOLE))
        self.assertEqual(house.moment, (5, 2))
        self.assertEqual(house.timekeeper("hall").shown(), "hall 4 at 1/2 in yard")
        self.assertEqual(house.timekeeper("ann").goal, "nook")
        self.assertEqual(house.timekeeper("bob").factor, (1, 60))
        self.assertEqual(house.bell("bell"), ("shed", (999999, 998)))
        self.assertEqual(house.alarm("wake"), ("bob", (1, 1000)))
        self.assertEqual(house.wait((3, 1)), (
            ((643, 250), "alarm", "wake", "bob"), ((3, 1), "arrival", "ann", "nook"), ((11, 2), "arrival", "cid", "hall"),
        ))

    def test_no_strings(self):
        for thing in (None, True, 0, ("house yard 0",), ["house yard 0"], House("yard")):
            check_error(self, InvalidText, {"line": 0}, lambda: House.read(thing))

    def test_forms(self):
        self.check_wrong([""], 0)
        self.check_wrong(["house yard 0", ""], 1)
        self.check_wrong(["", "house yard 0"], 0)
        self.check_wrong(WHOLE + [""], len(WHOLE))
        for index, line in enumerate(WHOLE):
            words = line.split(" ")
            for wrong in [
                line + " ", " " + line, line.replace(" ", "  ", 1), line + " 1", " ".join(words[:-1]), words[0],
                line.upper(), "thing " + " ".join(words[1:]), " ".join(words[1:]), words[0] + "s " + " ".join(words[1:]),
            ]:
                self.check_line(index, wrong)

    def test_a_long_text_after_the_wrong_line(self):
        self.check_wrong(["house yard 0", "house hall 0"] + ["x"] * 10000, 1)
        self.check_wrong(["x" * 100000] * 10, 0)

    def test_order_of_kinds(self):
        kinds = ["house", "room", "person", "bell", "alarm"]
        for line in WHOLE[1:]:
            # A name that would be the last one of its kind
            last = line.replace(" ", " zz", 1).split(" to ")[0]
            for index in range(1, len(WHOLE) + 1):
                before = WHOLE[index - 1].split(" ")[0]
                if kinds.index(before) > kinds.index(line.split(" ")[0]):
                    self.check_wrong(WHOLE[:index] + [last] + WHOLE[index:], index)
        self.check_line(1, "house hall 0")
        self.check_wrong(WHOLE[1:], 0)

    def test_ascending(self):
        for lines, index in [
            (["room b yard 1 1 0", "room a yard 1 1 0"], 2),
            (["room a yard 1 1 0", "room c a 1 1 0", "room b a 1 1 0"], 3),
            (["room a yard 1 1 0", "room b yard 1 1 0", "room c a 1 1 0"], 3),
            (["room b yard 1 1 0", "room c b 1 1 0", "room a yard 1 1 0"], 3),
            (["person b yard 1 0", "person a yard 1 0"], 2),
            (["bell b yard 1", "bell a yard 1"], 2),
            (["alarm b yard 1", "alarm a yard 1"], 2),
        ]:
            self.check_wrong(["house yard 0"] + lines, index)
        for lines in [
            ["room b yard 1 1 0", "room a b 1 1 0"],
            ["room a yard 1 1 0", "room z a 1 1 0", "room y z 1 1 0", "room b yard 1 1 0", "room a b 1 1 0"][:4],
        ]:
            text = "\n".join(["house yard 0"] + lines)
            self.assertEqual(state_text(House.read(text).state), text)

    def test_names(self):
        for name in ("self", "Hall", "hall1", "ninechars", "", "h-l", "yard"):
            self.check_line(1, f"room {name} yard 1 1 0")
            self.check_line(4, f"person {name} yard 1 0")
            self.check_line(7, f"bell {name} yard 1")
            self.check_line(9, f"alarm {name} yard 100")
            if name != "yard":
                self.check_line(0, f"house {name} 0")
        self.check_line(4, "person nook yard 1 0")
        self.check_line(7, "bell cid yard 1")
        self.check_line(8, "bell bell yard 1")
        self.check_line(9, "alarm gong yard 100")
        self.check_line(10, "alarm cook yard 101")

    def test_what_is_named_is_told_before(self):
        self.check_wrong(["house yard 0", "room hall attic 1/2 1 0"], 1)
        for name in ("attic", "hall"):
            self.check_line(1, f"room hall {name} 1 1 0")
        self.check_line(4, "person ann attic 3 8")
        self.check_line(4, "person ann ann 3 8")
        self.check_line(4, "person ann hall 3 8 to attic 17/4")
        self.check_line(5, "person bob ann 1 0")
        for name in ("attic", "ann", "bell"):
            self.check_line(7, f"bell bell {name} 1")
        for name in ("attic", "bell", "cook", "wake"):
            self.check_line(9, f"alarm cook {name} 100")
        self.check_line(9, "alarm cook ann 100", good=True)

    def test_paces_ways_factors_steps(self):
        for number in ("-1", "61", "1/61", "2/4", "1/1", "a", "", "-0", "01", "1/0", "0/1", "+1", "1.5", "1/-2", "--1"):
            self.check_line(1, f"room hall yard {number} 3 4")
            self.check_line(4, f"person ann hall {number} 8")
        for number in ("0", "-1", "1000000", "1/1000", "2/4", "1/1", "a", "", "999999/1000", "1_0", "00", "1/2/3", "/2", "1/"):
            self.check_line(1, f"room hall yard 1 {number} 4")
            self.check_line(7, f"bell bell shed {number}")
        self.check_line(4, "person ann hall 0 8")
        self.check_line(1, "room hall yard 0 3 4", good=True)
        self.check_line(1, "room hall yard 60/59 999999/998 4", good=True)

    def test_readings(self):
        for number in ("-1", "-1/2", "-0", "01", "1/01", "2/4", "a", "", "0/1", BIGGER, "1/" + BIGGER, "1 ", "1e3"):
            self.check_line(0, f"house yard {number}")
            self.check_line(1, f"room hall yard 1 1 {number}")
            self.check_line(4, f"person ann hall 1 {number}")
        for number in (BIG, "1/" + BIG, "0", BIG[:-1] + "8/" + BIG):
            self.check_line(0, f"house yard {number}", good=True)
            self.check_line(1, f"room hall yard 1 1 {number}", good=True)
            self.check_line(4, f"person ann hall 1 {number}", good=True)

    def test_walks(self):
        for tail in ("to nook 17/4", "to nook 33/8", "to yard 7", "to yard 400001/100000"):
            self.check_line(4, "person ann hall 3 8 " + tail, good=True)
        for tail in (
            "to nook 4", "to nook 3", "to nook 0", "to nook -1", "to nook 18/4", "to nook 171/40", "to yard 4",
            "to yard 71/10", "to shed 5", "to hall 5", "to bob 5", "to ann 5", "at nook 17/4", "to nook x", "to nook", "to",
            "to nook 17/4 17/4", "nook 17/4", "to nook 5/1",
        ):
            self.check_line(4, "person ann hall 3 8 " + tail)

    def test_long_ends_and_alarms(self):
        for digits, good in ((420, True), (421, False)):
            below = "1" + "0" * (digits - 1)
            above = "4" + "0" * (digits - 2) + "1"
            # 4.0..01, with as many digits below
            self.check_line(4, f"person ann hall 3 8 to nook {above}/{below}", good=good)
            self.check_line(9, f"alarm cook hall {above}/{below}", good=good)
            self.check_line(9, "alarm cook yard " + "9" * digits, good=good)

    def test_alarms(self):
        for reading in ("5/2", "2", "0", "-3", "x", "51/20 ", "10/4"):
            self.check_line(9, f"alarm cook yard {reading}")
        self.check_line(9, "alarm cook yard 51/20", good=True)
        self.check_line(9, "alarm cook ann 8")
        self.check_line(9, "alarm cook ann 9", good=True)

    def test_limits(self):
        for kind, most, tail in [("room", 9, "yard 1 1 0"), ("person", 8, "yard 1 0"), ("bell", 8, "yard 1"),
                                 ("alarm", 12, "yard 1")]:
            lines = ["house yard 0"] + [f"{kind} {letter} {tail}" for letter in "abcdefghijklm"[:most]]
            text = "\n".join(lines)
            self.assertEqual(state_text(House.read(text).state), text)
            self.check_wrong(lines + [f"{kind} z {tail}"], most + 1)

    def test_each_house_is_read_from_its_text(self):
        house = House("yard")
        for deed in [
            ("build", "hall", "yard", (1, 2), (3, 1)), ("build", "attic", "hall", (0, 1), (1, 7)),
            ("come", "bob", "hall", (2, 1)), ("come", "ann", "yard", (1, 1)), ("walk", "ann", "hall"), ("wait", (1, 3), None),
            ("hang", "gong", "attic", (1, 2)), ("alarm", "cook", "bob", (40, 7)), ("walk", "bob", "attic"),
            ("carry", "attic", "yard"), ("wait", (100, 1), None),
        ]:
            try:
                house.do(deed)
            except RuntimeError:
                pass
            text = state_text(house.state)
            again = House.read(text)
            self.assertTrue(again == house)
            self.assertEqual(state_text(again.state), text)


class NumberInTest(unittest.TestCase):
    def test_numbers(self):
        for text, value in [("0", (0, 1)), ("-3/2", (-3, 2)), ("17", (17, 1)), ("-5", (-5, 1)), ("1/999", (1, 999))]:
            self.assertEqual(number_in(text), value)

    def test_no_numbers(self):
        for text in ("", "-", "/", "1/", "/1", "1/0", "0/1", "2/2", "-0", "00", "1/02", "3/-2", "+1", " 1", "1 ", "1/2/3", "x",
                     "--1", "1" + "0" * 420, "1/1" + "0" * 420, "9" * 5000):
            check_error(self, InvalidNumber, {"thing": text}, lambda: number_in(text))
        self.assertEqual(number_in("1" + "0" * 419), (10 ** 419, 1))


if __name__ == "__main__":
    unittest.main()
