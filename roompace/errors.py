"""The errors of Roompace, in three families."""


class PaceError(ValueError):
    """A thing that is passed is not of the form that is asked for."""


class StateError(RuntimeError):
    """The state of the house does not allow what is asked for."""


class MissingError(LookupError):
    """The house has no such thing."""


class InvalidNumber(PaceError):
    def __init__(self, thing):
        super().__init__(f"not a number that fits here: {thing!r}")
        self.thing = thing


class InvalidName(PaceError):
    def __init__(self, name):
        super().__init__(f"not a name: {name!r}")
        self.name = name


class InvalidPace(PaceError):
    def __init__(self, pace):
        super().__init__(f"not a pace: {pace!r}")
        self.pace = pace


class InvalidAmount(PaceError):
    def __init__(self, amount):
        super().__init__(f"not a positive number: {amount!r}")
        self.amount = amount


class InvalidReading(PaceError):
    def __init__(self, reading):
        super().__init__(f"not a reading that fits here: {reading!r}")
        self.reading = reading


class InvalidCount(PaceError):
    def __init__(self, count):
        super().__init__(f"not a count that fits here: {count!r}")
        self.count = count


class InvalidDeed(PaceError):
    def __init__(self, index):
        super().__init__(f"not a deed; its index: {index!r}")
        self.index = index


class InvalidText(PaceError):
    def __init__(self, line):
        super().__init__(f"the text is wrong from this line on: {line!r}")
        self.line = line


class NameTaken(StateError):
    def __init__(self, name):
        super().__init__(f"the house has something of this name: {name!r}")
        self.name = name


class Outermost(StateError):
    def __init__(self, room):
        super().__init__(f"not possible with the outermost room: {room!r}")
        self.room = room


class InsideItself(StateError):
    def __init__(self, room):
        super().__init__(f"this room would be inside itself: {room!r}")
        self.room = room


class DoorBusy(StateError):
    def __init__(self, person):
        super().__init__(f"the door is in use by this person: {person!r}")
        self.person = person


class Walking(StateError):
    def __init__(self, person):
        super().__init__(f"this person walks: {person!r}")
        self.person = person


class NotNextDoor(StateError):
    def __init__(self, room):
        super().__init__(f"this room is not next door: {room!r}")
        self.room = room


class NeverReached(StateError):
    def __init__(self, name):
        super().__init__(f"this timekeeper never comes so far: {name!r}")
        self.name = name


class StandsStill(StateError):
    def __init__(self, room):
        super().__init__(f"this room stands still: {room!r}")
        self.room = room


class TooMany(StateError):
    def __init__(self, limit):
        super().__init__(f"more events than allowed; the most: {limit!r}")
        self.limit = limit


class TooLong(StateError):
    def __init__(self, limit):
        super().__init__(f"more digits than allowed; the most: {limit!r}")
        self.limit = limit


class Full(StateError):
    def __init__(self, limit):
        super().__init__(f"the house has no space for another; the most: {limit!r}")
        self.limit = limit


class Apart(StateError):
    def __init__(self, person):
        super().__init__(f"this person is in another room: {person!r}")
        self.person = person


class Silent(StateError):
    def __init__(self, names):
        super().__init__(f"none of these bells ever strikes: {names!r}")
        self.names = names


class NeverTogether(StateError):
    def __init__(self, reason):
        super().__init__(f"the bells never strike together: {reason!r}")
        self.reason = reason


class TooLate(StateError):
    def __init__(self, person):
        super().__init__(f"no trip of this person is possible: {person!r}")
        self.person = person


class NoRoom(MissingError):
    def __init__(self, room):
        super().__init__(f"no room: {room!r}")
        self.room = room


class NoPerson(MissingError):
    def __init__(self, person):
        super().__init__(f"no person: {person!r}")
        self.person = person


class NoBell(MissingError):
    def __init__(self, name):
        super().__init__(f"no bell: {name!r}")
        self.name = name


class NoAlarm(MissingError):
    def __init__(self, name):
        super().__init__(f"no alarm: {name!r}")
        self.name = name


class NoTimekeeper(MissingError):
    def __init__(self, name):
        super().__init__(f"neither a room nor a person: {name!r}")
        self.name = name


class NeverShown(MissingError):
    def __init__(self, reading):
        super().__init__(f"this reading was not shown up to now: {reading!r}")
        self.reading = reading
