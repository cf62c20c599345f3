"""The house from the point of view of another room."""

from roompace.deeds import check_room
from roompace.errors import StandsStill
from roompace.house import House
from roompace.motion import ZERO
from roompace.numbers import divide
from roompace.state import copied, rooms_outwards


def seen_from(house, room):
    """Return the house seen from a room: this room is its outermost room and its viewpoint."""
    state = house.state
    check_room(state, room)
    line = rooms_outwards(state, room)
    for name in line:
        if state.paces[name] == ZERO:
            raise StandsStill(name)
    seen = House(room)
    seen.state = turned(state, line)
    return seen


def turned(state, line):
    """Return the state in which each room of a line, which goes outwards, is around the next one."""
    top = line[0]
    later = copied(state)
    later.top = top
    later.outers[top] = None
    later.paces[top] = (1, 1)
    later.ways[top] = None
    for inner, outer in zip(line, line[1:]):
        later.outers[outer] = inner
        later.paces[outer] = divide((1, 1), state.paces[inner])
        later.ways[outer] = state.ways[inner]
    later.past = ()
    return later
