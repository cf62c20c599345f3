"""Point [11]: the table of deeds, as methods and as tuples, and the errors in their order."""

import unittest

from roompace.errors import (
    DoorBusy, Full, InsideItself, InvalidAmount, InvalidDeed, InvalidName, InvalidNumber, InvalidPace, InvalidReading,
    NameTaken, NoAlarm, NoPerson, NoRoom, NotNextDoor, NoTimekeeper, Outermost, Walking,
)
from roompace.house import House
from roompace.lines import state_text
from tests.helpers import NO_NAMES, NO_NUMBERS, check_error, small_house

NO_PACES = NO_NUMBERS + [(-1, 2), (61, 1), (1, 61)]
NO_FACTORS = NO_PACES + [(0, 1)]
NO_LENGTHS = NO_NUMBERS + [(0, 1), (-1, 1), (1000000, 1), (1, 1000)]

# Of each deed with a tuple: the method, and the call of the method with the items of the tuple.
CALLS = {
    "build": lambda house, room, around, pace, way: house.build(room, around, pace=pace, way=way),
    "pace": lambda house, room, pace: house.set_pace(room, pace),
    "carry": lambda house, room, into: house.carry(room, into),
    "come": lambda house, person, room, factor: house.come(person, room, factor=factor),
    "walk": lambda house, person, room: house.walk(person, room),
    "hang": lambda house, bell, room, step: house.hang(bell, room, step=step),
    "alarm": lambda house, alarm, timekeeper, reading: house.set_alarm(alarm, timekeeper, reading),
    "cancel": lambda house, alarm: house.cancel(alarm),
    "wait": lambda house, amount, by: house.wait(amount, by=by),
}

NAMED_CALLS = {
    "build": lambda house, a, b, c, d: house.build(way=d, pace=c, around=b, room=a),
    "pace": lambda house, a, b: house.set_pace(pace=b, room=a),
    "carry": lambda house, a, b: house.carry(into=b, room=a),
    "come": lambda house, a, b, c: house.come(factor=c, room=b, person=a),
    "walk": lambda house, a, b: house.walk(room=b, person=a),
    "hang": lambda house, a, b, c: house.hang(step=c, room=b, bell=a),
    "alarm": lambda house, a, b, c: house.set_alarm(reading=c, timekeeper=b, alarm=a),
    "cancel": lambda house, a: house.cancel(alarm=a),
    "wait": lambda house, a, b: house.wait(by=b, amount=a),
}


def ways_to_do(house, deed):
    """The same deed as a method by position, as a method by name, and as a tuple by either."""
    word, items = deed[0], deed[1:]
    return [
        lambda: CALLS[word](house, *items),
        lambda: NAMED_CALLS[word](house, *items),
        lambda: house.do(deed),
        lambda: house.do(deed=deed),
    ]


class DeedCase(unittest.TestCase):
    def check_deed(self, deed, before, after, returned=None):
        """Check the text after a deed, done in each way."""
        for k in range(4):
            house = House.read(before)
            self.assertEqual(ways_to_do(house, deed)[k](), returned)
            self.assertEqual(state_text(house.state), after)

    def check_refused(self, house, deed, error, fields):
        """Check the error of a deed, done in each way, and that nothing changes."""
        for act in ways_to_do(house, deed):
            check_error(self, error, fields, act, house)

    def check_order(self, house, good, wrong):
        """Check that of several errors that are due the first one in the list is raised.

        `wrong` lists (places, items, error, fields): items to put at these places of the deed.
        """
        for k, (_, _, error, fields) in enumerate(wrong):
            deed = list(good)
            for places, items, _, _ in wrong[:k:-1] + [wrong[k]]:
                for place, item in zip(places, items):
                    deed[place] = item
            self.check_refused(house, tuple(deed), error, fields)


class BuildTest(DeedCase):
    def test_effect(self):
        self.check_deed(
            ("build", "hall", "yard", (1, 2), (999999, 998)),
            "house yard 5/2",
            "house yard 5/2\nroom hall yard 1/2 999999/998 0",
        )
        self.check_deed(
            ("build", "attic", "hall", (0, 1), (1, 999)),
            "house yard 5/2\nroom hall yard 1/2 1 3",
            "house yard 5/2\nroom hall yard 1/2 1 3\nroom attic hall 0 1/999 0",
        )

    def test_defaults(self):
        house = House("yard")
        self.assertIsNone(house.build("hall", "yard"))
        self.assertEqual(state_text(house.state), "house yard 0\nroom hall yard 1 1 0")

    def test_wrong_things(self):
        house = small_house()
        for name in NO_NAMES:
            self.check_refused(house, ("build", name, "yard", (1, 1), (1, 1)), InvalidName, {"name": name})
        for name in ("yard", "nook", "ann", "gong", "cook"):
            self.check_refused(house, ("build", name, "yard", (1, 1), (1, 1)), NameTaken, {"name": name})
        for room in NO_NAMES + ["attic", "ann", "gong", "cook"]:
            self.check_refused(house, ("build", "new", room, (1, 1), (1, 1)), NoRoom, {"room": room})
        for pace in NO_PACES:
            self.check_refused(house, ("build", "new", "yard", pace, (1, 1)), InvalidPace, {"pace": pace})
        for way in NO_LENGTHS:
            self.check_refused(house, ("build", "new", "yard", (1, 1), way), InvalidNumber, {"thing": way})

    def test_a_room_is_not_around_itself(self):
        self.check_refused(small_house(), ("build", "new", "new", (1, 1), (1, 1)), NoRoom, {"room": "new"})

    def test_limit_and_order(self):
        house = House("yard")
        for name in "abcdefghi":
            house.build(name, "yard")
        good = ("build", "new", "yard", (1, 1), (1, 1))
        rest = [
            ((2,), ("attic",), NoRoom, {"room": "attic"}),
            ((3,), ((-1, 1),), InvalidPace, {"pace": (-1, 1)}),
            ((4,), ((0, 1),), InvalidNumber, {"thing": (0, 1)}),
            ((), (), Full, {"limit": 10}),
        ]
        self.check_order(house, good, [((1,), ("New",), InvalidName, {"name": "New"})] + rest)
        self.check_order(house, good, [((1,), ("a",), NameTaken, {"name": "a"})] + rest)
        self.assertEqual(len(house), 10)


class PaceTest(DeedCase):
    def test_effect(self):
        before = "house yard 5\nroom hall yard 1/2 1 3\nroom nook hall 2 1 1"
        self.check_deed(("pace", "hall", (60, 59)), before, before.replace("1/2", "60/59"))
        self.check_deed(("pace", "hall", (0, 1)), before, before.replace("1/2", "0"))
        self.check_deed(("pace", "nook", (1, 60)), before, before.replace("hall 2", "hall 1/60"))
        self.check_deed(("pace", "nook", (2, 1)), before, before)

    def test_wrong_things(self):
        house = small_house()
        for room in NO_NAMES + ["attic", "ann", "gong", "cook"]:
            self.check_refused(house, ("pace", room, (1, 1)), NoRoom, {"room": room})
        for pace in NO_PACES:
            self.check_refused(house, ("pace", "hall", pace), InvalidPace, {"pace": pace})
        self.check_refused(house, ("pace", "yard", (1, 1)), Outermost, {"room": "yard"})

    def test_order(self):
        wrong = [
            ((1,), ("attic",), NoRoom, {"room": "attic"}),
            ((1,), ("yard",), Outermost, {"room": "yard"}),
            ((2,), ((1, 61),), InvalidPace, {"pace": (1, 61)}),
        ]
        self.check_order(small_house(), ("pace", "hall", (1, 1)), wrong)


class CarryTest(DeedCase):
    BEFORE = "\n".join([
        "house yard 9", "room hall yard 1/2 3 4", "room nook hall 5/3 1/4 1", "room shed yard 2 1 7",
        "person ann nook 3 8", "bell gong nook 2", "alarm cook hall 5",
    ])

    def test_effect(self):
        after = "\n".join([
            "house yard 9", "room shed yard 2 1 7", "room hall shed 1/2 3 4", "room nook hall 5/3 1/4 1",
            "person ann nook 3 8", "bell gong nook 2", "alarm cook hall 5",
        ])
        self.check_deed(("carry", "hall", "shed"), self.BEFORE, after)
        outer = self.BEFORE.replace("nook hall", "nook yard")
        self.check_deed(("carry", "nook", "yard"), self.BEFORE, outer)

    def test_into_the_room_that_is_already_around(self):
        self.check_deed(("carry", "nook", "hall"), self.BEFORE, self.BEFORE)
        self.check_deed(("carry", "hall", "yard"), self.BEFORE, self.BEFORE)

    def test_the_rate_changes_with_the_room_around(self):
        house = House.read(self.BEFORE)
        house.carry("hall", "shed")
        self.assertEqual(house.timekeeper("nook").rate, (5, 3))
        self.assertEqual(house.timekeeper("ann").rate, (5, 1))

    def test_wrong_things(self):
        house = small_house()
        for room in NO_NAMES + ["attic", "ann", "gong", "cook"]:
            self.check_refused(house, ("carry", room, "shed"), NoRoom, {"room": room})
            self.check_refused(house, ("carry", "hall", room), NoRoom, {"room": room})
        for into in ("yard", "hall", "nook"):
            self.check_refused(house, ("carry", "yard", into), Outermost, {"room": "yard"})
        for into in ("hall", "nook"):
            self.check_refused(house, ("carry", "hall", into), InsideItself, {"room": "hall"})
        house.build("niche", "nook")
        self.check_refused(house, ("carry", "hall", "niche"), InsideItself, {"room": "hall"})

    def test_busy_doors(self):
        house = small_house()
        house.come("cid", "hall")
        house.come("abe", "hall")
        house.walk("cid", "yard")
        self.check_refused(house, ("carry", "hall", "shed"), DoorBusy, {"person": "cid"})
        house.walk("ann", "hall")
        self.check_refused(house, ("carry", "hall", "shed"), DoorBusy, {"person": "ann"})
        self.check_refused(house, ("carry", "hall", "yard"), DoorBusy, {"person": "ann"})
        house.walk("abe", "nook")
        self.check_refused(house, ("carry", "hall", "shed"), DoorBusy, {"person": "ann"})
        self.check_refused(house, ("carry", "nook", "shed"), DoorBusy, {"person": "abe"})
        house.wait((6, 1))
        # Ann and Cid have arrived; a walk inside the carried room does not matter.
        house.walk("bob", "nook")
        house.carry("hall", "shed")
        self.assertEqual(house.timekeeper("hall").around, "shed")
        self.assertEqual(house.timekeeper("bob").goal, "nook")

    def test_order(self):
        house = small_house()
        house.walk("ann", "hall")
        good = ("carry", "hall", "shed")
        wrong = [
            ((1,), ("attic",), NoRoom, {"room": "attic"}),
            ((2,), ("cellar",), NoRoom, {"room": "cellar"}),
            ((1, 2), ("yard", "yard"), Outermost, {"room": "yard"}),
        ]
        self.check_order(house, good, wrong)
        self.check_refused(house, ("carry", "hall", "nook"), InsideItself, {"room": "hall"})
        self.check_refused(house, good, DoorBusy, {"person": "ann"})


class ComeTest(DeedCase):
    def test_effect(self):
        before = "house yard 5\nroom hall yard 1/2 1 3"
        self.check_deed(("come", "ann", "hall", (60, 59)), before, before + "\nperson ann hall 60/59 0")

    def test_defaults(self):
        house = House("yard")
        self.assertIsNone(house.come("ann", "yard"))
        self.assertEqual(state_text(house.state), "house yard 0\nperson ann yard 1 0")

    def test_wrong_things(self):
        house = small_house()
        for name in NO_NAMES:
            self.check_refused(house, ("come", name, "yard", (1, 1)), InvalidName, {"name": name})
        for name in ("yard", "nook", "ann", "gong", "cook"):
            self.check_refused(house, ("come", name, "yard", (1, 1)), NameTaken, {"name": name})
        for room in NO_NAMES + ["attic", "ann", "gong", "cook", "new"]:
            self.check_refused(house, ("come", "new", room, (1, 1)), NoRoom, {"room": room})
        for factor in NO_FACTORS:
            self.check_refused(house, ("come", "new", "yard", factor), InvalidNumber, {"thing": factor})

    def test_limit_and_order(self):
        house = House("yard")
        for name in "abcdefgh":
            house.come(name, "yard")
        good = ("come", "new", "yard", (1, 1))
        rest = [
            ((2,), ("attic",), NoRoom, {"room": "attic"}),
            ((3,), ((0, 1),), InvalidNumber, {"thing": (0, 1)}),
            ((), (), Full, {"limit": 8}),
        ]
        self.check_order(house, good, [((1,), ("self",), InvalidName, {"name": "self"})] + rest)
        self.check_order(house, good, [((1,), ("h",), NameTaken, {"name": "h"})] + rest)


class WalkTest(DeedCase):
    def test_effect(self):
        before = "house yard 9\nroom hall yard 1/2 3 4\nroom nook hall 5/3 1/4 1\nperson ann hall 3 8"
        self.check_deed(("walk", "ann", "yard"), before, before + " to yard 7")
        self.check_deed(("walk", "ann", "nook"), before, before + " to nook 17/4")

    def test_wrong_things(self):
        house = small_house()
        for person in NO_NAMES + ["cid", "hall", "gong", "cook"]:
            self.check_refused(house, ("walk", person, "hall"), NoPerson, {"person": person})
        for room in NO_NAMES + ["attic", "ann", "gong", "cook"]:
            self.check_refused(house, ("walk", "ann", room), NoRoom, {"room": room})
        for room in ("yard", "nook"):
            self.check_refused(house, ("walk", "ann", room), NotNextDoor, {"room": room})
        for room in ("hall", "shed"):
            self.check_refused(house, ("walk", "bob", room), NotNextDoor, {"room": room})

    def test_who_walks_cannot_start_another_walk(self):
        house = small_house()
        house.walk("bob", "yard")
        for room in ("yard", "nook", "hall", "shed"):
            self.check_refused(house, ("walk", "bob", room), Walking, {"person": "bob"})
        house.wait((6, 1))
        house.walk("bob", "hall")
        self.assertEqual(house.timekeeper("bob").goal, "hall")

    def test_order(self):
        house = small_house()
        house.walk("bob", "nook")
        wrong = [
            ((1,), ("cid",), NoPerson, {"person": "cid"}),
            ((2,), ("attic",), NoRoom, {"room": "attic"}),
            ((1, 2), ("bob", "shed"), Walking, {"person": "bob"}),
        ]
        self.check_order(house, ("walk", "ann", "hall"), wrong)


class HangTest(DeedCase):
    def test_effect(self):
        before = "house yard 5\nroom hall yard 1/2 1 3"
        self.check_deed(("hang", "gong", "hall", (999999, 998)), before, before + "\nbell gong hall 999999/998")

    def test_defaults(self):
        house = House("yard")
        self.assertIsNone(house.hang("gong", "yard"))
        self.assertEqual(state_text(house.state), "house yard 0\nbell gong yard 1")

    def test_wrong_things(self):
        house = small_house()
        for name in NO_NAMES:
            self.check_refused(house, ("hang", name, "yard", (1, 1)), InvalidName, {"name": name})
        for name in ("yard", "nook", "ann", "gong", "cook"):
            self.check_refused(house, ("hang", name, "yard", (1, 1)), NameTaken, {"name": name})
        for room in NO_NAMES + ["attic", "ann", "gong", "cook"]:
            self.check_refused(house, ("hang", "new", room, (1, 1)), NoRoom, {"room": room})
        for step in NO_LENGTHS:
            self.check_refused(house, ("hang", "new", "yard", step), InvalidNumber, {"thing": step})

    def test_limit_and_order(self):
        house = House("yard")
        for name in "abcdefgh":
            house.hang(name, "yard")
        good = ("hang", "new", "yard", (1, 1))
        rest = [
            ((2,), ("attic",), NoRoom, {"room": "attic"}),
            ((3,), ((1, 1000),), InvalidNumber, {"thing": (1, 1000)}),
            ((), (), Full, {"limit": 8}),
        ]
        self.check_order(house, good, [((1,), (None,), InvalidName, {"name": None})] + rest)
        self.check_order(house, good, [((1,), ("yard",), NameTaken, {"name": "yard"})] + rest)


class AlarmTest(DeedCase):
    BEFORE = "house yard 9\nroom hall yard 1/2 3 4\nperson ann hall 3 8"

    def test_effect(self):
        for keeper, reading in [("hall", "9/2"), ("ann", "25/3"), ("yard", "1" + "0" * 399)]:
            above, _, below = reading.partition("/")
            deed = ("alarm", "cook", keeper, (int(above), int(below or 1)))
            self.check_deed(deed, self.BEFORE, f"{self.BEFORE}\nalarm cook {keeper} {reading}")

    def test_wrong_things(self):
        house = small_house()
        house.wait((9, 1))
        for name in NO_NAMES:
            self.check_refused(house, ("alarm", name, "yard", (10, 1)), InvalidName, {"name": name})
        for name in ("yard", "nook", "ann", "gong", "cook"):
            self.check_refused(house, ("alarm", name, "yard", (10, 1)), NameTaken, {"name": name})
        for keeper in NO_NAMES + ["attic", "gong", "cook", "new"]:
            self.check_refused(house, ("alarm", "new", keeper, (10, 1)), NoTimekeeper, {"name": keeper})
        for reading in NO_NUMBERS + [(9, 1), (8, 1), (0, 1), (-1, 2), (-10, 1), (-(10 ** 399), 1)]:
            self.check_refused(house, ("alarm", "new", "yard", reading), InvalidReading, {"reading": reading})
        self.check_refused(house, ("alarm", "new", "shed", (0, 1)), InvalidReading, {"reading": (0, 1)})
        house.set_alarm("new", "shed", (1, 10 ** 399))
        house.set_alarm("newer", "hall", (9 * 10 ** 398 + 1, 2 * 10 ** 398))

    def test_limit_and_order(self):
        house = House("yard")
        for name in "abcdefghijkl":
            house.set_alarm(name, "yard", (1, 1))
        good = ("alarm", "new", "yard", (1, 1))
        rest = [
            ((2,), ("attic",), NoTimekeeper, {"name": "attic"}),
            ((3,), ((0, 1),), InvalidReading, {"reading": (0, 1)}),
            ((), (), Full, {"limit": 12}),
        ]
        self.check_order(house, good, [((1,), ("a b",), InvalidName, {"name": "a b"})] + rest)
        self.check_order(house, good, [((1,), ("l",), NameTaken, {"name": "l"})] + rest)

    def test_space_again_after_an_alarm_rang_or_was_cancelled(self):
        house = House("yard")
        for name in "abcdefghijkl":
            house.set_alarm(name, "yard", (1 if name == "a" else 9, 1))
        house.wait((1, 1))
        house.set_alarm("a", "yard", (2, 1))
        house.cancel("b")
        house.set_alarm("new", "yard", (2, 1))
        self.check_refused(house, ("alarm", "b", "yard", (2, 1)), Full, {"limit": 12})


class CancelTest(DeedCase):
    def test_effect(self):
        self.check_deed(
            ("cancel", "cook"), "house yard 0\nalarm bake yard 1\nalarm cook yard 5", "house yard 0\nalarm bake yard 1",
        )

    def test_wrong_things(self):
        house = small_house()
        for alarm in NO_NAMES + ["bake", "yard", "ann", "gong"]:
            self.check_refused(house, ("cancel", alarm), NoAlarm, {"name": alarm})

    def test_the_name_is_free_again(self):
        house = small_house()
        house.cancel("cook")
        self.assertEqual(house.alarms(), ())
        house.build("cook", "yard")
        self.check_refused(house, ("cancel", "cook"), NoAlarm, {"name": "cook"})


class WaitDeedTest(DeedCase):
    def test_effect(self):
        before = "house yard 5\nroom hall yard 1/2 1 3\nbell gong hall 2"
        after = "house yard 7\nroom hall yard 1/2 1 4\nbell gong hall 2"
        for deed in [("wait", (2, 1), "yard"), ("wait", (1, 1), "hall"), ("wait", (2, 1), None)]:
            self.check_deed(deed, before, after, (((7, 1), "stroke", "gong", "hall"),))

    def test_wrong_things(self):
        house = small_house()
        for amount in NO_NUMBERS + [(0, 1), (-1, 2), (-(10 ** 399), 1)]:
            self.check_refused(house, ("wait", amount, None), InvalidAmount, {"amount": amount})
            self.check_refused(house, ("wait", amount, "attic"), InvalidAmount, {"amount": amount})
        for by in NO_NAMES[1:] + ["attic", "gong", "cook"]:
            self.check_refused(house, ("wait", (1, 1), by), NoTimekeeper, {"name": by})


class DoTest(unittest.TestCase):
    def test_no_deeds(self):
        house = small_house()
        deeds = [
            None, True, 3, "cancel", (), [], ["cancel", "cook"], ("cancel",), ("cancel", "cook", None), (None, "cook"),
            (["cancel"], "cook"), (("cancel",), "cook"), ("Cancel", "cook"), ("cancel ", "cook"), ("set_pace", "hall", (1, 1)),
            ("view", "hall"), ("build", "new", "yard"), ("build", "new", "yard", (1, 1)), ("come", "new", "yard"),
            ("build", "new", "yard", (1, 1), (1, 1), (1, 1)), ("pace", "hall"), ("pace", "hall", (1, 1), None),
            ("carry", "hall"), ("carry", "hall", "shed", 1), ("come", "new", "yard", (1, 1), 1), ("walk", "ann"),
            ("walk", "ann", "hall", 1), ("hang", "new", "yard"), ("hang", "new", "yard", (1, 1), 1),
            ("alarm", "new", "yard"), ("alarm", "new", "yard", (1, 1), 1), ("wait", (1, 1)), ("wait",),
            ("wait", (1, 1), None, None), (True, "cook"), ({}, "cook"), (house, "cook"), house,
        ]
        for deed in deeds:
            check_error(self, InvalidDeed, {"index": None}, lambda: house.do(deed), house)
            check_error(self, InvalidDeed, {"index": None}, lambda: house.do(deed=deed), house)

    def test_what_methods_return(self):
        house = House("yard")
        for deed in [
            ("build", "hall", "yard", (1, 2), (1, 1)), ("pace", "hall", (1, 1)), ("carry", "hall", "yard"),
            ("come", "ann", "yard", (1, 1)), ("walk", "ann", "hall"), ("hang", "gong", "yard", (5, 1)),
            ("alarm", "cook", "ann", (5, 1)), ("cancel", "cook"),
        ]:
            self.assertIsNone(house.do(deed))
        self.assertEqual(house.do(("wait", (1, 1), None)), (((1, 1), "arrival", "ann", "hall"),))
        self.assertEqual(house.do(("wait", (1, 1), "ann")), ())

    def test_keyword_only_arguments(self):
        house = House("yard")
        for act in [
            lambda: house.build("hall", "yard", (1, 2)), lambda: house.come("ann", "yard", (1, 2)),
            lambda: house.hang("gong", "yard", (1, 2)), lambda: house.wait((1, 1), "yard"),
        ]:
            with self.assertRaises(TypeError):
                act()
        self.assertEqual(state_text(house.state), "house yard 0")


if __name__ == "__main__":
    unittest.main()
