"""What several tests share: a small house, odd objects, and checks of errors."""

from roompace.errors import NeverShown
from roompace.house import House
from roompace.numbers import number
from roompace.past import convert
from roompace.texts import house_text

# Objects that are no name.
NO_NAMES = [
    None, True, 0, 7, "", "self", "Hall", "hall1", "ha ll", "hall\n", "ninechars", "a-b", ("hall",), ["hall"], [], (),
]

# Objects that are no number.
NO_NUMBERS = [
    None, True, False, 0, 1, "", "1", "1/2", (), (1,), (1, 2, 3), [1, 2], (2, 4), (0, 2), (1, 0), (0, 0),
    (1, -1), (-2, -3), (True, 1), (1, True), (False, 1), (1, None), ("1", 2), ((1, 1), (1, 1)), [(1, 2)],
]


def read(*lines):
    """The house that has these lines."""
    return House.read("\n".join(lines))


def small_house():
    """A yard with a hall and a shed; a nook in the hall; Ann and Bob; a bell and an alarm."""
    house = House("yard")
    house.build("hall", "yard", pace=(1, 2), way=(3, 1))
    house.build("shed", "yard", pace=(0, 1))
    house.build("nook", "hall", pace=(5, 3), way=(1, 4))
    house.come("ann", "yard")
    house.come("bob", "hall", factor=(2, 1))
    house.hang("gong", "hall", step=(7, 2))
    house.set_alarm("cook", "yard", (100, 1))
    return house


# Objects that are no timekeeper, no person, and no bell of the small house.
NO_TIMEKEEPERS = NO_NAMES + ["attic", "gong", "cook"]
NO_PEOPLE = NO_NAMES + ["cid", "hall", "yard", "gong", "cook"]
NO_BELLS = NO_NAMES + ["peal", "hall", "ann", "cook"]

# Objects that are no deed.
NO_DEEDS = [
    None, True, 0, "wait", "cancel", (), [], ("wait",), ("wait", (1, 1)), ["wait", (1, 1), None],
    ("wait", (1, 1), None, None), ("cancel",), ("cancel", "cook", "cook"), ("pace", "hall"), ("build", "loft", "hall"),
    ("viewpoint", "hall"), ("set_pace", "hall", (1, 1)), ("WAIT", (1, 1), None), (None, "cook"), (["wait"], (1, 1), None),
    (("cancel", "cook"),), ("walk", "ann", "hall", (1, 1)), ("come", "cid", "hall"), ("hang", "bell", "hall"),
    ("alarm", "wake", "hall"), ("carry", "hall"), (1, 2, 3),
]


def all_of(house):
    """Everything that a call could change, but for the past."""
    return (house_text(house), house.viewpoint)


def past_of(house):
    """Conversions of a house between all of its timekeepers, at some readings of each."""
    names = house.rooms() + house.people()
    told = {}
    for of in names:
        above, below = house.timekeeper(of).time
        readings = [number(above * part, below * 4) for part in range(6)] + [(1, 3), (5, 2)]
        for to in names:
            for reading in readings:
                try:
                    told[of, to, reading] = convert(house, reading, of, to)
                except NeverShown:
                    told[of, to, reading] = None
    return told


def all_with_past(house):
    return all_of(house) + (past_of(house),)


def check_error(case, error, fields, act, house=None):
    """Check the class of an error, its fields, and that the house is as before."""
    before = None if house is None else all_of(house)
    with case.assertRaises(error) as caught:
        act()
    case.assertIs(caught.exception.__class__, error)
    for name in fields:
        case.assertEqual(getattr(caught.exception, name), fields[name])
        case.assertIs(getattr(caught.exception, name).__class__, fields[name].__class__)
    if house is not None:
        case.assertEqual(all_of(house), before)
