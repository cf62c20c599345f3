"""What several tests share: a small house, odd objects, and checks of errors."""

from roompace.house import House
from roompace.lines import state_text

# Objects that are no name.
NO_NAMES = [
    None, True, 0, 7, "", "self", "Hall", "hall1", "ha ll", "hall\n", "ninechars", "a-b", ("hall",), ["hall"], [], (),
]

# Objects that are no number.
NO_NUMBERS = [
    None, True, False, 0, 1, "", "1", "1/2", (), (1,), (1, 2, 3), [1, 2], (2, 4), (0, 2), (1, 0), (0, 0),
    (1, -1), (-2, -3), (True, 1), (1, True), (False, 1), (1, None), ("1", 2), ((1, 1), (1, 1)), [(1, 2)],
]


def small_house():
    """A yard with a hall and a shed; a nook in the hall; Ann and Bob; a bell and an alarm."""
    house = House("yard")
    house.build("hall", "yard", pace=(1, 2), way=(3, 1))
    house.build("shed", "yard", pace=(0, 1))
    house.build("nook", "hall", pace=(5, 3), way=(1, 4))
    house.come("ann", "yard")
    house.come("bob", "hall", factor=(2, 1))
    house.hang("gong", "hall", step=(7, 2))
    house.set_alarm("cook", "yard", (100, 1))
    return house


def all_of(house):
    """Everything that a call could change."""
    return (state_text(house.state), house.viewpoint)


def check_error(case, error, fields, act, house=None):
    """Check the class of an error, its fields, and that the house is as before."""
    before = None if house is None else all_of(house)
    with case.assertRaises(error) as caught:
        act()
    case.assertIs(caught.exception.__class__, error)
    for name in fields:
        case.assertEqual(getattr(caught.exception, name), fields[name])
        case.assertIs(getattr(caught.exception, name).__class__, fields[name].__class__)
    if house is not None:
        case.assertEqual(all_of(house), before)
