"""Clocks and watches, as objects that tell the present state of their house."""

from roompace.errors import NoTimekeeper
from roompace.motion import keeper_rate
from roompace.numbers import number_text
from roompace.state import is_named


class Timekeeper:
    """A room or a person of a house, by its name."""

    def __init__(self, house, name):
        self._house = house
        self._name = name

    def _table(self, state):
        """Return a table of all things that the name may stand for."""
        return state.readings

    def _present(self):
        """Return the state of the house, if it has this timekeeper now."""
        state = self._house.state
        if not is_named(self._table(state), self._name):
            raise NoTimekeeper(self._name)
        return state

    @property
    def label(self):
        """The name."""
        self._present()
        return self._name

    @property
    def time(self):
        """The reading."""
        return self._present().readings[self._name]

    @property
    def rate(self):
        """How fast the reading grows, compared with the clock of the outermost room."""
        return keeper_rate(self._present(), self._name)

    def shown(self):
        """Return the name and the reading."""
        reading = self._present().readings[self._name]
        return f"{self._name} {number_text(reading)}"


class RoomClock(Timekeeper):
    """The clock of a room."""

    def _table(self, state):
        return state.outers

    @property
    def around(self):
        """The name of the room around this one, None for the outermost room."""
        return self._present().outers[self._name]

    @property
    def pace(self):
        """The pace of the room, which can be assigned."""
        return self._present().paces[self._name]

    @pace.setter
    def pace(self, value):
        self._present()
        self._house.set_pace(self._name, value)

    @property
    def way(self):
        """The way to the room around this one, None for the outermost room."""
        return self._present().ways[self._name]

    def shown(self):
        """Return the name and the reading, then the pace and the room around this one."""
        told = super().shown()
        state = self._present()
        if self._name == state.top:
            return told
        return f"{told} at {number_text(state.paces[self._name])} in {state.outers[self._name]}"


class Watch(Timekeeper):
    """The watch of a person."""

    def _table(self, state):
        return state.spots

    @property
    def factor(self):
        """The factor of the watch."""
        return self._present().factors[self._name]

    @property
    def place(self):
        """The name of the room in which the person is."""
        return self._present().spots[self._name]

    @property
    def goal(self):
        """The name of the room to which the person walks, or None."""
        state = self._present()
        if self._name not in state.walks:
            return None
        return state.walks[self._name][0]

    def shown(self):
        """Return the name and the reading, then the room in which the person is."""
        told = super().shown()
        return f"{told} in {self._present().spots[self._name]}"
