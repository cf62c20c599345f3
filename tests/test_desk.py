"""Point [26] and the section "roompace/desk.py"."""

import random
import re
import unittest
from fractions import Fraction

from roompace import desk as module
from roompace.desk import Desk
from roompace.errors import InvalidText, MissingError, PaceError, StateError
from roompace.house import House
from roompace.meetings import first_equal
from roompace.numbers import number_text
from roompace.parsing import parse_number
from roompace.past import convert, forecast
from roompace.previews import events
from roompace.seen import seen_from
from roompace.strokes import nth_stroke
from roompace.texts import house_text
from roompace.together import together
from roompace.trips import oldest, youngest
from tests.helpers import all_with_past, check_error, small_house
from tests.model import random_house

TEXT = house_text(small_house())

# A command of each form, which is accepted by the desk with the text.
COMMANDS = [
    "build loft hall 1/2 3", "pace hall 2", "carry nook yard", "come cid yard 2/3", "walk ann hall", "hang bell yard 7/3",
    "alarm wake ann 5/2", "cancel cook", "view hall", "wait 3", "wait 3 ann", "coming 3", "show ann", "now",
    "convert 0 yard hall", "forecast 9 yard hall", "equal ann bob", "stroke 0", "together", "oldest ann nook yard 90",
    "youngest ann nook yard 90", "seen nook", "text",
]

DEEDS = ("build", "pace", "carry", "come", "walk", "hang", "alarm", "cancel")

FORMS = {
    "build": "w w n n", "pace": "w n", "carry": "w w", "come": "w w n", "walk": "w w", "hang": "w w n", "alarm": "w w n",
    "cancel": "w", "view": "w", "wait": "n w?", "coming": "n", "show": "w", "now": "", "convert": "n w w",
    "forecast": "n w w", "equal": "w w", "stroke": "c", "together": "", "oldest": "w w w n", "youngest": "w w w n",
    "seen": "w", "text": "",
}


class SecondDesk:
    """The answers that point [26] tells, by the functions of the package."""

    def __init__(self, text):
        self.house = House.read(text)

    def say(self, command):
        if not isinstance(command, str) or not re.fullmatch(r"[^ \n]+( [^ \n]+)*", command):
            return "bad command"
        word, *rest = command.split(" ")
        form = FORMS.get(word, "none").split()
        least = len([kind for kind in form if not kind.endswith("?")])
        if form == ["none"] or not least <= len(rest) <= len(form):
            return "bad command"
        given = []
        for kind, text in zip(form, rest):
            if kind == "c":
                if not re.fullmatch("0|[1-9][0-9]*", text) or int(text) > 10 ** 18:
                    return "bad command"
                given.append(int(text))
            elif kind == "n":
                try:
                    given.append(parse_number(text))
                except InvalidText:
                    return "bad command"
                if given[-1][0] < 0:
                    return "bad command"
            else:
                given.append(text)
        try:
            return self.answer(word, given)
        except (PaceError, StateError, MissingError) as error:
            return re.sub("([A-Z])", r" \1", error.__class__.__name__).strip().lower()

    def answer(self, word, given):
        house = self.house
        if word in DEEDS:
            house.do((word, *given))
            return "done"
        if word == "view":
            house.viewpoint = given[0]
            return "done"
        if word == "seen":
            self.house = seen_from(house, given[0])
            return "done"
        if word in ("wait", "coming"):
            rows = house.do(("wait", (*given, None)[0], (*given, None)[1])) if word == "wait" else events(house, given[0])
            told = [" ".join([number_text(row[0]), *row[1:]]) for row in rows]
            return "; ".join(told) or "nothing"
        if word in ("show", "now", "text"):
            return {"show": lambda: house.timekeeper(given[0]).shown(), "now": lambda: number_text(house.now),
                    "text": lambda: house_text(house)}[word]()
        if word in ("oldest", "youngest"):
            growth, room, way = {"oldest": oldest, "youngest": youngest}[word](house, *given)
            return " ".join([number_text(growth), room, *way])
        function = {"convert": convert, "forecast": forecast, "equal": first_equal, "stroke": nth_stroke, "together": together}[word]
        told = function(house, *given)
        if told is None:
            return "never"
        if word in ("forecast", "equal"):
            return number_text(told)
        return number_text(told[0]) + " " + (told[1] if word == "stroke" else number_text(told[1]))


class DeskTest(unittest.TestCase):
    def check(self, desk, rows):
        for command, answer in rows:
            self.assertEqual(desk.say(command), answer, command)

    def check_no_change(self, text, rows):
        """Check answers of commands that change nothing."""
        desk = Desk(text)
        before = all_with_past(desk.house)
        self.check(desk, rows)
        self.assertEqual(all_with_past(desk.house), before)

    def test_example(self):
        desk = Desk("house yard 0\nbell gong yard 2")
        self.assertEqual(desk.say("wait 5"), "2 stroke gong yard; 4 stroke gong yard")
        self.assertEqual(desk.say("carry yard yard"), "outermost")
        self.assertEqual(desk.say(command="now"), "5")
        self.assertEqual(Desk(text="house yard 7/2").say("now"), "7/2")

    def test_each_command(self):
        for command in COMMANDS:
            answer = Desk(TEXT).say(command)
            self.assertEqual(answer, SecondDesk(TEXT).say(command), command)
            self.assertIs(answer.__class__, str)
            self.assertNotEqual(answer, "bad command")

    def test_deeds(self):
        desk = Desk("house yard 0")
        self.check(desk, [
            ("build hall yard 1/2 3", "done"), ("build shed yard 0 1", "done"), ("build nook hall 60 999999/998", "done"),
            ("come ann yard 1", "done"), ("come bob nook 59/60", "done"), ("hang gong hall 1/3", "done"),
            ("alarm cook ann 7", "done"), ("alarm wake hall 1/9", "done"), ("walk ann hall", "done"), ("pace shed 4/3", "done"),
            ("carry nook shed", "done"), ("cancel wake", "done"),
            ("text", "\n".join([
                "house yard 0", "room hall yard 1/2 3 0", "room shed yard 4/3 1 0", "room nook shed 60 999999/998 0",
                "person ann yard 1 0 to hall 3", "person bob nook 59/60 0", "bell gong hall 1/3", "alarm cook ann 7"])),
        ])

    def test_waits_and_previews(self):
        desk = Desk(TEXT)
        self.check(desk, [
            ("walk ann hall", "done"), ("coming 5/2", "nothing"), ("now", "0"), ("wait 5/2", "nothing"), ("now", "5/2"),
            ("coming 6", "3 arrival ann hall; 7 stroke gong hall"), ("wait 1/2 ann", "3 arrival ann hall"), ("now", "3"),
            ("show ann", "ann 3 in hall"), ("alarm wake hall 7/2", "done"), ("alarm early ann 5", "done"),
            ("coming 4", "7 alarm early ann; 7 alarm wake hall; 7 stroke gong hall"), ("now", "3"),
            ("wait 2 hall", "7 alarm early ann; 7 alarm wake hall; 7 stroke gong hall"), ("now", "7"), ("wait 1/2 hall", "nothing"),
            ("now", "8"), ("cancel early", "no alarm"),
        ])

    def test_views(self):
        desk = Desk(TEXT)
        self.check(desk, [
            ("view hall", "done"), ("now", "0"), ("coming 4", "7/2 stroke gong hall"), ("wait 4", "7/2 stroke gong hall"),
            ("now", "4"), ("view yard", "done"), ("now", "8"), ("coming 6", "14 stroke gong hall"), ("view nook", "done"),
            ("now", "20/3"), ("wait 5 hall", "35/3 stroke gong hall"), ("view shed", "done"), ("now", "0"),
            ("wait 1", "never reached"), ("wait 1 yard", "nothing"), ("coming 1", "never reached"), ("view attic", "no room"),
            ("view ann", "no room"), ("now", "0"),
        ])

    def test_show_now_text(self):
        text = TEXT.replace("house yard 0", "house yard 10/3").replace("hall 2 0", "hall 2 5/7")
        self.check_no_change(text, [
            ("show yard", "yard 10/3"), ("show hall", "hall 0 at 1/2 in yard"), ("show shed", "shed 0 at 0 in yard"),
            ("show ann", "ann 0 in yard"), ("show bob", "bob 5/7 in hall"), ("now", "10/3"), ("show gong", "no timekeeper"),
            ("show cook", "no timekeeper"), ("show Yard", "no timekeeper"), ("show 7", "no timekeeper"),
            ("text", text),
        ])

    def test_convert_and_forecast(self):
        desk = Desk(TEXT)
        for command in ("wait 3", "pace hall 0", "wait 2", "pace hall 1/3", "wait 1"):
            desk.say(command)
        before = all_with_past(desk.house)
        self.check(desk, [
            ("convert 3/2 hall yard", "3 5"), ("convert 1 yard hall", "1/2 1/2"), ("convert 0 shed yard", "0 6"),
            ("convert 7 yard hall", "never shown"), ("convert 0 yard yard", "0 0"), ("forecast 6 yard hall", "11/6"),
            ("forecast 9 yard hall", "17/6"), ("forecast 7/2 hall yard", "11"), ("forecast 5 yard hall", "invalid reading"),
            ("forecast 1 shed yard", "never reached"), ("forecast 0 shed yard", "6"),
            ("forecast 1 gong attic", "no timekeeper"), ("convert 99 yard attic", "no timekeeper"),
        ])
        self.assertEqual(all_with_past(desk.house), before)

    def test_equal_stroke_together(self):
        self.check_no_change(TEXT, [
            ("equal ann bob", "0"), ("equal yard yard", "0"), ("equal gong yard", "no timekeeper"), ("stroke 0", "7 gong"),
            ("stroke 1000000000000000000", "7000000000000000007 gong"), ("together", "7 7"),
        ])
        self.check_no_change(TEXT.replace("ann yard 1 0", "ann yard 1 9/2").replace("bob hall 2", "bob hall 5"), [
            ("equal ann bob", "15/2"), ("equal bob ann", "15/2"), ("equal ann yard", "never"), ("equal shed ann", "never"),
        ])
        self.check_no_change("house yard 0\nroom hall yard 0 1 0\nbell a yard 2/3\nbell b yard 1/2", [
            ("together", "2 2"), ("stroke 0", "1/2 b"), ("stroke 2", "1 b"), ("stroke 5", "2 a"),
        ])
        self.check_no_change("house yard 0\nroom hall yard 0 1 0\nbell a yard 2/3\nbell b hall 1/2", [("together", "never together")])
        self.check_no_change("house yard 0\nroom hall yard 0 1 0\nbell b hall 1/2", [("stroke 0", "silent")])
        self.check_no_change("house yard 0", [("together", "silent"), ("stroke 0", "silent")])

    def test_trips(self):
        self.check_no_change("house yard 0\nroom hall yard 3 4 0\nperson ann yard 1 0\nperson bob yard 1 0 to hall 4", [
            ("oldest ann yard yard 10", "22 hall yard hall yard"), ("oldest ann yard yard 5", "5 yard yard"),
            ("youngest ann yard yard 10", "10 yard yard"), ("youngest ann hall yard 10", "10 yard yard hall"),
            ("oldest ann hall hall 30", "22 hall yard hall"), ("oldest ann hall yard 3", "too late"),
            ("youngest ann hall yard 3", "too late"), ("oldest cid hall yard 9", "no person"), ("oldest ann attic yard 9", "no room"),
            ("oldest bob hall yard 9", "walking"),
        ])

    def test_seen(self):
        desk = Desk(TEXT)
        self.check(desk, [
            ("wait 3", "nothing"), ("convert 1 yard hall", "1/2 1/2"), ("view hall", "done"), ("seen shed", "stands still"),
            ("seen attic", "no room"), ("now", "3/2"), ("convert 1 yard hall", "1/2 1/2"), ("seen nook", "done"), ("now", "5/2"),
            ("show nook", "nook 5/2"), ("show hall", "hall 3/2 at 3/5 in nook"), ("show yard", "yard 3 at 2 in hall"),
            ("convert 1 yard hall", "never shown"), ("convert 3 yard hall", "3/2 3/2"), ("wait 1", "nothing"), ("now", "7/2"),
            ("show hall", "hall 21/10 at 3/5 in nook"), ("stroke 0", "7/3 gong"), ("carry nook yard", "outermost"),
            ("pace nook 1", "outermost"), ("pace yard 4", "done"), ("seen yard", "done"), ("now", "21/5"),
            ("show hall", "hall 21/10 at 1/4 in yard"), ("wait 2", "nothing"), ("show hall", "hall 13/5 at 1/4 in yard"),
        ])

    def test_errors_of_the_text(self):
        for text, line in (("", 0), (None, 0), (b"house yard 0", 0), (["house yard 0"], 0), ("house yard 0\n", 1),
                           ("house yard 0\nroom hall attic 1 1 0", 1), (TEXT + "\nalarm cook yard 100", 8)):
            check_error(self, InvalidText, {"line": line}, lambda: Desk(text))


class ErrorTest(unittest.TestCase):
    def check(self, rows, text=TEXT):
        for command, answer in rows:
            desk = Desk(text)
            before = all_with_past(desk.house)
            self.assertEqual(desk.say(command), answer, command)
            self.assertEqual(all_with_past(desk.house), before)

    def test_each_error_by_its_words(self):
        self.check([
            ("come cid yard 61", "invalid number"), ("build Hall yard 1 1", "invalid name"), ("pace hall 61", "invalid pace"),
            ("wait 0", "invalid amount"), ("alarm wake yard 0", "invalid reading"), ("build ann yard 1 1", "name taken"),
            ("pace yard 1", "outermost"), ("carry hall nook", "inside itself"), ("walk ann nook", "not next door"),
            ("wait 1 shed", "never reached"), ("seen shed", "stands still"), ("wait 10000", "too many"),
            ("walk cid hall", "no person"), ("walk ann attic", "no room"), ("cancel gong", "no alarm"),
            ("show gong", "no timekeeper"), ("convert 1 yard yard", "never shown"), ("oldest ann nook yard 1", "too late"),
        ])
        walking = TEXT.replace("person ann yard 1 0", "person ann yard 1 0 to hall 3")
        self.check([("walk ann shed", "walking"), ("carry hall shed", "door busy"), ("oldest ann hall yard 9", "walking")], walking)
        self.check([("build z a 1 1", "full")], "house a 0\n" + "\n".join(f"room {name} a 1 1 0" for name in "bcdefghij"))
        self.check([("come z a 1", "full")], "house a 0\n" + "\n".join(f"person {name} a 1 0" for name in "bcdefghi"))
        self.check([("hang z a 1", "full")], "house a 0\n" + "\n".join(f"bell {name} a 1" for name in "bcdefghi"))
        self.check([("alarm z a 1", "full")], "house a 0\n" + "\n".join(f"alarm {name} a 1" for name in "bcdefghijklm"))
        self.check([("wait " + "9" * 401, "too long"), ("coming " + "9" * 401, "too long")], "house a 0")
        self.check([("together", "silent"), ("stroke 0", "silent")], "house a 0")
        self.check([("together", "never together")], "house a 0\nroom b a 1 1 1\nbell c a 2\nbell d b 2")

    def test_two_errors_at_once(self):
        self.check([
            ("build Hall attic 61 0", "invalid name"), ("build gong attic 61 0", "name taken"), ("build loft attic 61 0", "no room"),
            ("build loft hall 61 0", "invalid pace"), ("build loft hall 1 0", "invalid number"), ("pace attic 61", "no room"),
            ("pace yard 61", "outermost"), ("carry attic loft", "no room"), ("carry yard attic", "no room"),
            ("carry yard yard", "outermost"), ("carry hall hall", "inside itself"), ("come self attic 0", "invalid name"),
            ("come bob attic 0", "name taken"), ("come cid attic 0", "no room"), ("come cid hall 0", "invalid number"),
            ("walk cid attic", "no person"), ("walk bob attic", "no room"), ("walk bob shed", "not next door"),
            ("hang Bell attic 0", "invalid name"), ("hang hall attic 0", "name taken"), ("hang bell attic 0", "no room"),
            ("hang bell hall 0", "invalid number"), ("alarm self attic 0", "invalid name"), ("alarm cook attic 0", "name taken"),
            ("alarm wake attic 0", "no timekeeper"), ("alarm wake shed 0", "invalid reading"), ("wait 0 attic", "invalid amount"),
            ("wait 1 attic", "no timekeeper"), ("wait 10000 shed", "never reached"), ("coming 0", "invalid amount"),
            ("convert 9 attic loft", "no timekeeper"), ("forecast 0 attic loft", "no timekeeper"),
            ("oldest cid attic loft 0", "no person"), ("oldest ann attic shed 0", "no room"), ("oldest ann nook attic 0", "no room"),
            ("oldest ann tool shed 1", "no room"), ("oldest ann nook shed 1", "stands still"),
        ])
        walking = TEXT.replace("person ann yard 1 0", "person ann yard 1 0 to hall 3").replace("house yard 0", "house yard 2")
        self.check([
            ("walk ann attic", "no room"), ("walk ann nook", "walking"), ("oldest ann nook yard 1", "invalid reading"),
            ("youngest ann nook shed 0", "walking"), ("carry hall nook", "inside itself"), ("carry hall shed", "door busy"),
        ], walking)

    def test_a_bad_command_comes_before_every_error(self):
        self.check([(command, "bad command") for command in (
            "build Hall attic 61", "build Hall attic 61 -1", "pace attic 2/4", "come self attic x", "wait -1 attic", "wait 00",
            "alarm self attic 1/", "convert -1 attic loft", "forecast +1 attic loft", "stroke -1", "stroke 1000000000000000001",
            "oldest cid attic loft 2/2", "coming -1/2", "hang self attic 01",
        )])


class FormTest(unittest.TestCase):
    def check_bad(self, things):
        for thing in things:
            desk = Desk(TEXT)
            before = all_with_past(desk.house)
            self.assertEqual(desk.say(thing), "bad command", thing)
            self.assertEqual(all_with_past(desk.house), before)

    def test_no_strings(self):
        self.check_bad([None, True, False, 0, 1, (0, 1), (), ("now",), ["now"], ("wait", (1, 1), None), b"now", House("yard")])

    def test_no_commands(self):
        self.check_bad([
            "", " ", "\n", "Now", "NOW", "now!", "time", "self", "house yard 0", "set_alarm wake ann 5/2", "viewpoint hall", "done",
            "bad command", "nothing", "n", "w", "wait_answer", "do", "rooms", "set_pace hall 2", "copy", "read", "undo", "help",
        ])

    def test_spaces_and_newlines_at_any_place(self):
        for command in COMMANDS:
            for sign in (" ", "\n", "  ", " \n"):
                places = [at for at in range(len(command) + 1)]
                texts = [command[:at] + sign + command[at:] for at in places]
                # Between the letters of a word, a space makes other words, which may be a command, too.
                bad = [text for text in texts if "\n" in text or "  " in text or text != text.strip()]
                self.check_bad(bad)
            self.check_bad([command.replace(" ", "\n")] if " " in command else [])
            self.check_bad([command.replace(" ", "  ", 1)] if " " in command else [])
            self.check_bad([command + "\n" + command, command + "; " + command, " " + command, command + " "])

    def test_words_more_and_less(self):
        for command in COMMANDS:
            words = command.split(" ")
            self.check_bad([command + " yard" + (" yard" if words[0] == "wait" else ""), command + " yard yard yard"])
            if len(words) > 1 and command != "wait 3 ann":
                self.check_bad([" ".join(words[:-1]), " ".join(words[1:])])
            self.check_bad([word + " " + command for word in ("now", "text", "please")])

    def test_numbers(self):
        for command in COMMANDS:
            words = command.split(" ")
            for place, word in enumerate(words):
                if not re.fullmatch("[0-9/]+", word):
                    continue
                for wrong in ("-1", "-1/2", "-0", "00", "01", "+1", "2/4", "1/1", "0/1", "1/0", "x", "1/", "/1", "1.5", "1e3",
                              "1/2/3", "1" + "0" * 420, "1/1" + "0" * 420, "yard", "(1,2)"):
                    self.check_bad([" ".join(words[:place] + [wrong] + words[place + 1:])])

    def test_numbers_at_their_limits(self):
        longest = "9" * 420
        for command, answer in [
            ("forecast " + longest + " yard yard", longest), ("convert " + longest + " yard yard", "never shown"),
            ("pace hall " + longest, "invalid pace"), ("alarm wake yard " + longest, "done"), ("come cid yard 1/" + longest,
                                                                                               "invalid number"),
            ("wait " + longest, "too many"), ("wait 1/" + longest, "too long"), ("wait 1/" + "9" * 421, "bad command"),
            ("alarm wake yard " + "9" * 421, "bad command"),
        ]:
            self.assertEqual(Desk(TEXT).say(command), answer, command)

    def test_counts(self):
        desk = Desk(TEXT)
        for text, answer in [
            ("0", "7 gong"), ("1", "14 gong"), ("10", "77 gong"), ("999999999999999999", "7000000000000000000 gong"),
            ("1000000000000000000", "7000000000000000007 gong"), ("1000000000000000001", "bad command"),
            ("9999999999999999999", "bad command"), ("9" * 500, "bad command"), ("00", "bad command"), ("01", "bad command"),
            ("-0", "bad command"), ("+1", "bad command"), ("1/2", "bad command"), ("2/1", "bad command"), ("x", "bad command"),
            ("1.0", "bad command"), ("1_0", "bad command"),
        ]:
            self.assertEqual(desk.say("stroke " + text), answer, text)

    def test_other_words_are_any_words(self):
        for word in ("Ann", "a-b", "!", "\"", "ninechars", "ann;", "1/2", "-", "self", "None", "now"):
            desk = Desk(TEXT)
            for command, answer in [
                (f"show {word}", "no timekeeper"), (f"walk {word} hall", "no person"), (f"walk ann {word}", "no room"),
                (f"cancel {word}", "no alarm"), (f"seen {word}", "no room"), (f"view {word}", "no room"), (f"pace {word} 1", "no room"),
                (f"carry {word} {word}", "no room"), (f"equal yard {word}", "no timekeeper"), (f"wait 1 {word}", "no timekeeper"),
                (f"oldest {word} hall yard 1", "no person"), (f"youngest ann {word} yard 1", "no room"),
                (f"oldest ann hall {word} 1", "no room"), (f"convert 0 {word} yard", "no timekeeper"),
                (f"forecast 0 yard {word}", "no timekeeper"), (f"alarm wake {word} 1", "no timekeeper"),
            ]:
                self.assertEqual(desk.say(command), answer, command)
            if word != "now":
                self.assertEqual(desk.say(f"build {word} yard 1 1"), "invalid name")
                self.assertEqual(desk.say(f"come {word} yard 1"), "invalid name")
                self.assertEqual(desk.say(f"hang {word} yard 1"), "invalid name")
                self.assertEqual(desk.say(f"alarm {word} yard 1"), "invalid name")


def random_word(chance, house):
    names = house.rooms() + house.people() * 2 + house.bells() + house.alarms()
    return chance.choice(names) if chance.random() < 0.9 else chance.choice("abcdefghijklmnopqrstuvwxyz")


def random_command(chance, house):
    """A command of any form, with words that mostly fit."""
    word = chance.choice(sorted(FORMS) + ["wait", "walk", "come", "build", "hang", "alarm", "carry"] * 2)
    words = [word]
    for kind in FORMS[word].split():
        if kind == "w?" and chance.random() < 0.5:
            continue
        if kind in ("w", "w?"):
            words.append(random_word(chance, house))
        elif kind == "n":
            words.append(str(Fraction(chance.randint(0, 12), chance.randint(1, 4))))
        else:
            words.append(str(chance.choice([0, 1, 5, 10 ** 12, 10 ** 18])))
    if word in ("build", "come", "hang", "alarm") and chance.random() < 0.8:
        words[1] = chance.choice("abcdefghijklmnopqrstuvwxyz")
    if word in ("alarm", "forecast", "oldest", "youngest") and chance.random() < 0.8:
        words[-1 if word != "forecast" else 1] = str(chance.randint(5, 60))
    if chance.random() < 0.02:
        words.insert(chance.randint(0, len(words)), chance.choice(["", "1", "yard"]))
    return " ".join(words)


class RandomTest(unittest.TestCase):
    def test_a_desk_and_the_functions(self):
        chance = random.Random(151)
        heard = {}
        for _ in range(70):
            text = house_text(random_house(chance))
            desk, second = Desk(text), SecondDesk(text)
            for _ in range(70):
                command = random_command(chance, second.house)
                answer = second.say(command)
                self.assertEqual(desk.say(command), answer, command)
                word = command.split(" ")[0]
                heard.setdefault(word, set()).add(answer)
                self.assertEqual(desk.say("text"), house_text(second.house))
                self.assertEqual(desk.say("now"), number_text(second.house.now))
        for word in FORMS:
            self.assertGreaterEqual(len(heard[word]), 2, word)
        said = set().union(*heard.values())
        for words in ("no room", "no person", "no timekeeper", "no alarm", "never reached", "never shown", "walking",
                      "not next door", "stands still", "silent", "never together", "invalid reading", "name taken",
                      "nothing", "never", "done", "bad command", "outermost", "inside itself", "invalid number", "invalid amount"):
            self.assertTrue(words in said, words)

    def test_a_desk_and_a_house_that_get_the_same_deeds(self):
        chance = random.Random(152)
        for _ in range(30):
            house = random_house(chance)
            desk = Desk(house_text(house))
            house.viewpoint = house.outermost
            for _ in range(25):
                command = random_command(chance, house)
                word, *rest = command.split(" ")
                if word not in DEEDS or "" in rest:
                    continue
                answer = desk.say(command)
                given = [parse_number(text) if text[:1].isdigit() else text for text in rest]
                try:
                    self.assertIsNone(house.do((word, *given)))
                    self.assertEqual(answer, "done")
                except (ValueError, RuntimeError, LookupError):
                    self.assertNotEqual(answer, "done")
                self.assertEqual(desk.say("text"), house_text(house))
            try:
                rows = house.wait((7, 2))
            except RuntimeError:
                continue
            self.assertEqual(desk.say("wait 7/2"), "; ".join(" ".join([number_text(row[0]), *row[1:]]) for row in rows) or "nothing")
            self.assertEqual(desk.say("text"), house_text(house))

    def test_questions_change_nothing(self):
        desk = Desk(TEXT)
        before = all_with_past(desk.house)
        for command in COMMANDS:
            if command.split(" ")[0] not in DEEDS + ("view", "wait", "seen"):
                desk.say(command)
                self.assertEqual(all_with_past(desk.house), before, command)

    def test_two_desks_of_one_text(self):
        first, second = Desk(TEXT), Desk(TEXT)
        for command in COMMANDS:
            first.say(command)
        self.assertEqual(second.say("text"), TEXT)


class PlaceTest(unittest.TestCase):
    def test_defined_in_this_file(self):
        self.assertEqual(Desk.__module__, module.__name__)
        self.assertIn("say", vars(Desk))
        self.assertIn("__init__", vars(Desk))


if __name__ == "__main__":
    unittest.main()
