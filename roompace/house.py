"""Houses: the rooms with all that is in them, and the deeds on them."""

from roompace.deeds import (
    alarm_added, alarm_cancelled, bell_hung, built, carried, check_bell, check_room, is_deed, joined, paced, walk_begun,
)
from roompace.errors import InvalidDeed, InvalidName, NoAlarm, NoTimekeeper
from roompace.lines import state_text
from roompace.reading import read_state
from roompace.state import State, is_named, is_plain_name, names_inside
from roompace.timekeepers import RoomClock, Watch
from roompace.waiting import events_seen, waited


class House:
    """A house, which has one room at first.

    All that it contains, and its past, is in its attribute `state`, which each deed
    replaces by a new one. The room of the viewpoint is in its attribute `view_room`.
    """

    MOST_ROOMS = 10
    MOST_PEOPLE = 8
    MOST_BELLS = 8
    MOST_ALARMS = 12
    MOST_EVENTS = 500

    def __init__(self, outermost):
        if not is_plain_name(outermost):
            raise InvalidName(outermost)
        self.state = State(outermost)
        self.view_room = outermost

    @staticmethod
    def is_name(thing):
        """Tell whether an object may be a name in a house."""
        return is_plain_name(thing)

    @classmethod
    def read(cls, text):
        """Return the house that has this text."""
        limits = (cls.MOST_ROOMS, cls.MOST_PEOPLE, cls.MOST_BELLS, cls.MOST_ALARMS)
        state = read_state(text, limits)
        house = cls(state.top)
        house.state = state
        return house

    def build(self, room, around, *, pace=(1, 1), way=(1, 1)):
        """Build a new room inside a room."""
        self.state = built(self.state, room, around, pace, way, self.MOST_ROOMS)

    def set_pace(self, room, pace):
        """Change the pace of a room."""
        self.state = paced(self.state, room, pace)

    def set_paces(self, **paces):
        """Change the paces of the rooms that are named, all or none."""
        state = self.state
        for room in paces:
            state = paced(state, room, paces[room])
        self.state = state

    def carry(self, room, into):
        """Put a room, with everything in it, into another room."""
        self.state = carried(self.state, room, into)

    def come(self, person, room, *, factor=(1, 1)):
        """Let a new person come into a room."""
        self.state = joined(self.state, person, room, factor, self.MOST_PEOPLE)

    def walk(self, person, room):
        """Let a person start to walk to a room next door."""
        self.state = walk_begun(self.state, person, room)

    def hang(self, bell, room, *, step=(1, 1)):
        """Hang a new bell in a room."""
        self.state = bell_hung(self.state, bell, room, step, self.MOST_BELLS)

    def set_alarm(self, alarm, timekeeper, reading):
        """Set a new alarm on a room or a person."""
        self.state = alarm_added(self.state, alarm, timekeeper, reading, self.MOST_ALARMS)

    def cancel(self, alarm):
        """Remove an alarm."""
        self.state = alarm_cancelled(self.state, alarm)

    def wait(self, amount, *, by=None):
        """Let time pass until a timekeeper has grown by the amount; return the events."""
        keeper = self.view_room if by is None else by
        before = self.state
        later, events = waited(before, amount, keeper, self.MOST_EVENTS)
        self.state = later
        return events_seen(before, events, self.view_room)

    def do(self, deed):
        """Do a deed that is given as a tuple, and return what its method returns."""
        if not is_deed(deed):
            raise InvalidDeed(None)
        word, *given = deed
        if word == "build":
            return self.build(given[0], given[1], pace=given[2], way=given[3])
        if word == "pace":
            return self.set_pace(given[0], given[1])
        if word == "carry":
            return self.carry(given[0], given[1])
        if word == "come":
            return self.come(given[0], given[1], factor=given[2])
        if word == "walk":
            return self.walk(given[0], given[1])
        if word == "hang":
            return self.hang(given[0], given[1], step=given[2])
        if word == "alarm":
            return self.set_alarm(given[0], given[1], given[2])
        if word == "cancel":
            return self.cancel(given[0])
        return self.wait(given[0], by=given[1])

    @property
    def viewpoint(self):
        """The name of the room whose clock tells the readings of events."""
        return self.view_room

    @viewpoint.setter
    def viewpoint(self, room):
        check_room(self.state, room)
        self.view_room = room

    @property
    def now(self):
        """The reading of the clock of the viewpoint."""
        return self.state.readings[self.view_room]

    @property
    def moment(self):
        """The reading of the clock of the outermost room."""
        return self.state.readings[self.state.top]

    @property
    def outermost(self):
        """The name of the outermost room."""
        return self.state.top

    def timekeeper(self, name):
        """Return the RoomClock or the Watch of this name."""
        if is_named(self.state.outers, name):
            return RoomClock(self, name)
        if is_named(self.state.spots, name):
            return Watch(self, name)
        raise NoTimekeeper(name)

    def rooms(self):
        """Return the names of all rooms, ascending."""
        return tuple(sorted(self.state.outers))

    def people(self):
        """Return the names of all people, ascending."""
        return tuple(sorted(self.state.spots))

    def bells(self):
        """Return the names of all bells, ascending."""
        return tuple(sorted(self.state.bell_table))

    def alarms(self):
        """Return the names of all alarms, ascending."""
        return tuple(sorted(self.state.alarm_table))

    def bell(self, name):
        """Return the room and the step of a bell."""
        check_bell(self.state, name)
        return self.state.bell_table[name]

    def alarm(self, name):
        """Return the timekeeper and the reading of an alarm."""
        if not is_named(self.state.alarm_table, name):
            raise NoAlarm(name)
        return self.state.alarm_table[name]

    def rooms_inside(self, room):
        """Yield the rooms right inside a room, ascending, each followed by those inside it."""
        check_room(self.state, room)
        for name in names_inside(self.state, room):
            yield name

    def copy(self):
        """Return an independent house with the same state, viewpoint and past."""
        twin = House(self.state.top)
        twin.state = self.state
        twin.view_room = self.view_room
        return twin

    def __eq__(self, other):
        return isinstance(other, House) and state_text(self.state) == state_text(other.state)

    def __len__(self):
        return len(self.state.outers)
