"""Points [4], [24] and [25], and the section "roompace/parsing.py"."""

import random
import re
import unittest
from fractions import Fraction

from roompace import parsing
from roompace.errors import InvalidText, NeverShown
from roompace.house import House
from roompace.numbers import number, number_text
from roompace.parsing import parse_house, parse_number
from roompace.past import convert
from roompace.seen import seen_from
from roompace.texts import house_text
from tests.helpers import all_with_past, check_error, small_house
from tests.model import random_house

READERS = (parse_house, House.read)

# Names that are words of the text, too.
TEXT = "\n".join([
    "house house 5/2", "room hall house 1/2 3 4", "room nook hall 5/3 1/4 1", "room room house 0 1 0",
    "person alarm hall 3 8 to nook 17/4", "person bell nook 1/60 0", "person person house 60 1/3 to hall 11/2",
    "person to house 1 2", "bell gong hall 7/2", "bell peal room 999999/998", "alarm cook house 100", "alarm wake bell 1/1000",
])

DIGITS = "0|[1-9][0-9]*"


class Wrong(Exception):
    pass


def value(text, most, low=None, high=None):
    """The fraction that a text tells, with at most so many digits in each integer."""
    if not re.fullmatch(rf"({DIGITS})(/([1-9][0-9]*))?", text):
        raise Wrong
    above, _, below = text.partition("/")
    if below == "1" or len(above) > most or len(below) > most:
        raise Wrong
    found = Fraction(int(above), int(below or "1"))
    if below and found.denominator != int(below):
        raise Wrong
    return found


def part_value(text, above, below, zero=False):
    found = value(text, 420)
    if not (zero and found == 0) and not (1 <= found.numerator <= above and found.denominator <= below):
        raise Wrong
    return found


class Checker:
    """Another way to tell which lines are the text of a house."""

    KINDS = ["house", "room", "person", "bell", "alarm"]
    MOST = {"house": 1, "room": 9, "person": 8, "bell": 8, "alarm": 12}

    def __init__(self):
        self.names = {}
        self.last = {}
        self.rooms = {}
        self.kind = -1

    def add(self, line):
        words = line.split(" ")
        if words[0] not in self.KINDS:
            raise Wrong
        kind = self.KINDS.index(words[0])
        if kind < self.kind or (self.kind == -1) != (kind == 0) or len(words) < 3:
            raise Wrong
        self.kind = kind
        name = words[1]
        if not re.fullmatch("[a-z]{1,8}", name) or name == "self" or name in self.names:
            raise Wrong
        if words[0] != "room" and name < self.last.get(words[0], ""):
            raise Wrong
        if list(self.names.values()).count(words[0]) == self.MOST[words[0]]:
            raise Wrong
        getattr(self, words[0])(name, words[2:])
        self.names[name] = words[0]
        self.last[words[0]] = name

    def room_named(self, name):
        if self.names.get(name) not in ("house", "room"):
            raise Wrong
        return self.rooms[name]

    def house(self, name, rest):
        if len(rest) != 1:
            raise Wrong
        self.rooms[name] = {"time": value(rest[0], 400), "around": None, "way": None}
        self.line = [name]
        self.inner = {name: ""}

    def room(self, name, rest):
        if len(rest) != 4:
            raise Wrong
        self.room_named(rest[0])
        # Rooms are told from the outermost one inwards, so only the last room and those around it may get another one.
        if rest[0] not in self.line or name < self.inner[rest[0]]:
            raise Wrong
        part_value(rest[1], 60, 60, zero=True)
        way = part_value(rest[2], 999999, 999)
        self.rooms[name] = {"time": value(rest[3], 400), "around": rest[0], "way": way}
        self.line = self.line[:self.line.index(rest[0]) + 1] + [name]
        self.inner[rest[0]] = name
        self.inner[name] = ""

    def person(self, name, rest):
        if len(rest) not in (3, 6):
            raise Wrong
        room = self.room_named(rest[0])
        part_value(rest[1], 60, 60)
        self.rooms[name] = {"time": value(rest[2], 400)}
        if len(rest) == 6:
            goal = self.room_named(rest[4])
            way = room["way"] if room["around"] == rest[4] else goal["way"] if goal["around"] == rest[0] else None
            end = value(rest[5], 420)
            if rest[3] != "to" or way is None or not room["time"] < end <= room["time"] + way:
                raise Wrong

    def bell(self, name, rest):
        if len(rest) != 2:
            raise Wrong
        self.room_named(rest[0])
        part_value(rest[1], 999999, 999)

    def alarm(self, name, rest):
        if len(rest) != 2 or self.names.get(rest[0]) not in ("house", "room", "person"):
            raise Wrong
        if value(rest[1], 420) <= self.rooms[rest[0]]["time"]:
            raise Wrong


def first_wrong(text):
    """The index of the first wrong line, None if the text is the text of a house."""
    checker = Checker()
    for index, line in enumerate(text.split("\n")):
        try:
            checker.add(line)
        except Wrong:
            return index
    return None


class NumberTest(unittest.TestCase):
    def check_no_number(self, things):
        for thing in things:
            check_error(self, InvalidText, {"line": 0}, lambda: parse_number(thing))

    def test_numbers_of_either_sign(self):
        for text, expected in [
            ("0", (0, 1)), ("1", (1, 1)), ("-1", (-1, 1)), ("-3/2", (-3, 2)), ("3/2", (3, 2)), ("1/999", (1, 999)), ("10", (10, 1)),
            ("-100/999", (-100, 999)), ("60", (60, 1)), ("1000000007/1000000009", (1000000007, 1000000009)),
        ]:
            self.assertEqual(parse_number(text), expected)
            self.assertEqual(parse_number(text=text), expected)
            self.assertEqual(number_text(parse_number(text)), text)

    def test_each_number_is_read_from_its_text(self):
        chance = random.Random(141)
        for digits in (1, 2, 5, 40, 420):
            for _ in range(30):
                pair = number(chance.randint(-10 ** digits + 1, 10 ** digits - 1), chance.randint(1, 10 ** digits - 1))
                self.assertEqual(parse_number(number_text(pair)), pair)

    def test_leading_zeros_signs_spaces(self):
        self.check_no_number([
            "00", "01", "-01", "1/02", "01/2", "007", "-0", "+1", "--1", "-", "+", "-+1", "1-", "1/-2", "-1/-2", "1/+2", " 1", "1 ",
            "1 /2", "1/ 2", "1 2", "- 1", "\n1", "1\n", "1\n2", " ", "\n",
        ])

    def test_not_in_lowest_terms_and_missing_parts(self):
        self.check_no_number([
            "2/4", "-2/4", "1/1", "5/1", "0/1", "0/2", "-0/3", "6/3", "1/0", "0/0", "", "/", "1/", "/2", "-/2", "1//2", "1/2/3",
            "1/2/", "/1/2",
        ])

    def test_other_signs(self):
        self.check_no_number([
            "a", "1a", "0x10", "1_000", "1e3", "1.5", "1,5", "one", "(1, 2)", "\"1\"", "1/2a", "\u0661", "\u00b2", "1\u00bd",
        ])

    def test_long_integers(self):
        longest, longer = "9" * 420, "1" + "0" * 420
        self.assertEqual(parse_number(longest), (10 ** 420 - 1, 1))
        self.assertEqual(parse_number("-" + longest), (1 - 10 ** 420, 1))
        self.assertEqual(parse_number("1/" + longest), (1, 10 ** 420 - 1))
        self.assertEqual(parse_number("-" + longest[:-1] + "8/" + longest), (2 - 10 ** 420, 10 ** 420 - 1))
        self.check_no_number([longer, "-" + longer, "1/" + longer, longer + "/3", "7/1" + longer, "9" * 100000, "0" * 420 + "1"])

    def test_no_strings(self):
        self.check_no_number([None, True, False, 0, 7, (1, 2), (0, 1), [], ["1"], ("1",), (), (1, 1), House("yard")])


class HouseTest(unittest.TestCase):
    def check(self, text):
        """Compare both readers with the other way to check a text."""
        index = first_wrong(text)
        for reader in READERS:
            if index is None:
                self.assertEqual(house_text(reader(text)), text)
            else:
                check_error(self, InvalidText, {"line": index}, lambda: reader(text))
        return index

    def test_example(self):
        check_error(self, InvalidText, {"line": 1}, lambda: parse_house("house yard 0\nroom hall attic 1/2 1 0"))

    def test_what_is_returned(self):
        for reader in READERS:
            house = reader(text=TEXT)
            self.assertIs(house.__class__, House)
            self.assertEqual((house.viewpoint, house.outermost, house.now), ("house", "house", (5, 2)))
            self.assertEqual(house.rooms(), ("hall", "house", "nook", "room"))
            self.assertEqual(house.people(), ("alarm", "bell", "person", "to"))
            self.assertEqual(house.timekeeper("alarm").goal, "nook")
            self.assertEqual(house.timekeeper("person").shown(), "person 1/3 in house")
            self.assertEqual(house.bell("peal"), ("room", (999999, 998)))
            self.assertEqual(house.alarm("wake"), ("bell", (1, 1000)))

    def test_its_past_begins_now(self):
        house = small_house()
        house.wait((3, 1))
        house.viewpoint = "nook"
        again = parse_house(house_text(house))
        self.assertEqual(again.viewpoint, "yard")
        self.assertEqual(convert(again, (3, 1), "yard", "hall"), ((3, 2), (3, 2)))
        check_error(self, NeverShown, {"reading": (2, 1)}, lambda: convert(again, (2, 1), "yard", "hall"), again)
        again.wait((1, 1))
        self.assertEqual(convert(again, (7, 2), "yard", "hall"), ((7, 4), (7, 4)))

    def test_texts_of_houses(self):
        self.assertIsNone(self.check(TEXT))
        chance = random.Random(142)
        for _ in range(60):
            house = random_house(chance)
            self.assertIsNone(self.check(house_text(house)))
            self.assertTrue(parse_house(house_text(house)) == house)

    def test_no_strings(self):
        for reader in READERS:
            for thing in (None, True, 0, (0, 1), ["house yard 0"], ("house yard 0",), House("yard")):
                check_error(self, InvalidText, {"line": 0}, lambda: reader(thing))

    def test_every_beginning_of_whole_lines(self):
        chance = random.Random(143)
        for text in [TEXT] + [house_text(random_house(chance)) for _ in range(20)]:
            lines = text.split("\n")
            for many in range(1, len(lines) + 1):
                self.assertIsNone(self.check("\n".join(lines[:many])))

    def test_empty_texts_and_newlines(self):
        for text, index in [("", 0), ("\n", 0), ("\n" + TEXT, 0), (TEXT + "\n", 12), (TEXT + "\n\n", 12), ("house a 0\n", 1),
                            ("house a 0\n\nroom b a 1 1 0", 1), (" ", 0), (TEXT.replace("\n", "\n\n"), 1), ("house a 0 ", 0)]:
            self.assertEqual(self.check(text), index)

    def test_lines_left_out_doubled_exchanged(self):
        lines = TEXT.split("\n")
        wrong = 0
        for k in range(len(lines)):
            texts = [lines[:k] + lines[k + 1:], lines[:k + 1] + lines[k:], lines[:k] + [""] + lines[k:]]
            for other in range(k + 1, len(lines)):
                changed = list(lines)
                changed[k], changed[other] = lines[other], lines[k]
                texts.append(changed)
                texts.append(lines[:k] + lines[k + 1:other + 1] + [lines[k]] + lines[other + 1:])
            for text in texts:
                wrong += self.check("\n".join(text)) is not None
        self.assertGreater(wrong, 120)
        self.assertEqual(self.check("\n".join(lines[:2] + lines[1:])), 2)
        self.assertEqual(self.check("\n".join(lines[1:])), 0)

    def test_words_more_less_and_replaced(self):
        lines = TEXT.split("\n")
        others = ["house", "hall", "to", "self", "person", "gong", "cook", "zoo", "0", "1", "7", "-1", "2/4", "61", "1/1000",
                  "1000000", "", "A", "9" * 401]
        good = 0
        for k, line in enumerate(lines):
            words = line.split(" ")
            for place in range(len(words) + 1):
                changed = [words[:place] + words[place + 1:]]
                for word in others:
                    changed.append(words[:place] + [word] + words[place:])
                    changed.append(words[:place] + [word] + words[place + 1:])
                for row in changed:
                    good += self.check("\n".join(lines[:k] + [" ".join(row)] + lines[k + 1:])) is None
        self.assertGreater(good, 30)

    def test_random_changes_of_signs(self):
        chance = random.Random(144)
        found = {}
        for _ in range(3000):
            text = house_text(random_house(chance, 12)) if chance.random() < 0.1 else TEXT
            at = chance.randrange(len(text))
            sign = chance.choice("abehlmorst01239/ -\n")
            new = chance.choice([text[:at] + sign + text[at:], text[:at] + text[at + 1:], text[:at] + sign + text[at + 1:]])
            index = self.check(new)
            found[index] = found.get(index, 0) + 1
        self.assertGreater(found[None], 200)
        self.assertGreater(len(found), 10)

    def test_the_first_wrong_line_counts(self):
        lines = TEXT.split("\n")
        for k in range(len(lines)):
            self.assertEqual(self.check("\n".join(lines[:k] + ["x"] + lines[k + 1:])), k)
            for other in range(k + 1, len(lines)):
                changed = lines[:k] + ["x"] + lines[k + 1:other] + ["y"] + lines[other + 1:]
                self.assertEqual(self.check("\n".join(changed)), k)

    def check_bound(self, form, good, bad, index=2):
        for word in good:
            self.assertIsNone(self.check("\n".join(line.replace("*", word) for line in form)), word)
        for word in bad:
            self.assertEqual(self.check("\n".join(line.replace("*", word) for line in form)), index, word)

    def test_bounds_of_numbers(self):
        head = ["house a 0", "room b a 1 3/2 1/3"]
        digits = ["9" * 400, "1/" + "9" * 400, "1" + "0" * 399 + "/" + "9" * 400, "0"]
        long_digits = ["1" + "0" * 400, "1/1" + "0" * 400, "3/1" + "0" * 400, "-1"]
        self.check_bound(["house a *"], digits, long_digits, 0)
        self.check_bound(head + ["room c b 1 1 *"], digits, long_digits)
        self.check_bound(head + ["person c b 1 *"], digits, long_digits)
        self.check_bound(head + ["room c b * 1 0"], ["60", "1/60", "59/60", "60/59", "0", "1"], ["61", "1/61", "61/60", "60/61", "-1"])
        self.check_bound(head + ["room c b 1 * 0"], ["999999", "1/999", "999998/999", "1"], ["1000000", "1/1000", "0", "-1"])
        self.check_bound(head + ["person c b * 0"], ["60", "1/60", "59/60", "60/59", "1"], ["61", "1/61", "61/60", "60/61", "0", "-1"])
        self.check_bound(head + ["bell c b *"], ["999999", "1/999", "999998/999", "1"], ["1000000", "1/1000", "0", "-1"])

    def test_bounds_of_ends(self):
        head = ["house a 0", "room b a 1 3/2 1/3"]
        # from 1/3 to 11/6 by the clock of the room b, from 0 to 3/2 by that of the outermost room
        just_more = "1" + "0" * 418 + "1/3" + "0" * 419
        self.check_bound(head + ["person c b 1 0 to a *"], ["11/6", "1/2", "1", just_more],
                         ["1/3", "1/4", "0", "-1", "2", "19/10", "11/6 1", "1" + "0" * 419 + "1/3" + "0" * 420])
        tiny, tinier = "1/1" + "0" * 419, "1/1" + "0" * 420
        self.check_bound(head + ["person c a 1 0 to b *"], ["3/2", "1", tiny], ["0", "151/100", "2", tinier, "-1"])
        self.check_bound(head + ["person c a 1 0 to *"], ["b 1"], ["a 1", "c 1", "d 1", "b 0", "b", "1"])

    def test_bounds_of_alarms(self):
        head = ["house a 5", "room b a 1 3/2 1/3", "person c b 1 7/3"]
        most, more = "9" * 420, "1" + "0" * 420
        self.check_bound(head + ["alarm d a *"], ["6", "51/10", most], ["5", "49/10", "0", "-6", more], 3)
        self.check_bound(head + ["alarm d b *"], ["1", "1/2", most], ["1/3", "1/4", more], 3)
        self.check_bound(head + ["alarm d c *"], ["5/2", most], ["7/3", "9/4", more], 3)
        self.check_bound(head + ["alarm d * 9"], ["a", "b", "c"], ["d", "e", "alarm"], 3)

    def test_bounds_of_how_many(self):
        for kind, most, tail in (("room", 9, "z 1 1 0"), ("person", 8, "z 1 0"), ("bell", 8, "z 1"), ("alarm", 12, "z 1")):
            lines = ["house z 0"] + [f"{kind} {name} {tail}" for name in "abcdefghijklm"]
            self.assertIsNone(self.check("\n".join(lines[:most + 1])))
            self.assertEqual(self.check("\n".join(lines)), most + 1)
            self.assertEqual(self.check("\n".join(lines[:most + 2])), most + 1)

    def test_names(self):
        for name in ("a", "abcdefgh", "to", "room", "house", "person", "bell", "alarm", "selfish", "z"):
            for line in (f"house {name} 0", f"house q 0\nroom {name} q 1 1 0", f"house q 0\nperson {name} q 1 0",
                         f"house q 0\nbell {name} q 1", f"house q 0\nalarm {name} q 1"):
                self.assertIsNone(self.check(line))
        for name in ("", "self", "abcdefghi", "A", "a1", "a-b", "1", "hAll", "q"):
            self.assertEqual(self.check(f"house {name} 0"), None if name == "q" else 0)
            for line in (f"room {name} q 1 1 0", f"person {name} q 1 0", f"bell {name} q 1", f"alarm {name} q 1"):
                self.assertEqual(self.check("house q 0\n" + line), 1)

    def test_a_house_that_was_turned(self):
        house = parse_house(TEXT)
        for room in ("hall", "nook"):
            self.assertIsNone(self.check(house_text(seen_from(house, room))))

    def test_two_houses_of_one_text(self):
        first, second = parse_house(TEXT), parse_house(TEXT)
        before = all_with_past(second)
        first.wait((1, 1))
        first.set_pace("hall", (0, 1))
        self.assertEqual(all_with_past(second), before)


class PlaceTest(unittest.TestCase):
    def test_defined_in_this_file(self):
        for function in (parse_number, parse_house):
            self.assertEqual(function.__module__, parsing.__name__)


if __name__ == "__main__":
    unittest.main()
