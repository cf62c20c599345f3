"""Trips on which a watch grows most or least before a clock shows a reading."""

from roompace.deeds import check_person, check_room
from roompace.errors import InvalidReading, StandsStill, TooLate, Walking
from roompace.motion import ZERO, room_rate
from roompace.numbers import add, compare, divide, is_number, multiply, subtract
from roompace.state import path_between, way_between


def trips(house, person, goal, clock, reading):
    """Return, for all rooms, the pairs of the room and of the growth of the watch on the trip by it."""
    state = house.state
    moments = moments_left(state, person, goal, clock, reading)
    found = []
    for room in sorted(state.outers):
        path = path_by(state, person, room, goal)
        found.append((room, growth_by(state, person, room, path, moments)))
    return tuple(found)


def oldest(house, person, goal, clock, reading):
    """Return the growth, the room and the way of the trip on which the watch grows most."""
    return best_trip(house, person, goal, trips(house, person, goal, clock, reading), 1)


def youngest(house, person, goal, clock, reading):
    """Return the growth, the room and the way of the trip on which the watch grows least."""
    return best_trip(house, person, goal, trips(house, person, goal, clock, reading), -1)


def best_trip(house, person, goal, found, side):
    """Return the trip with the greatest growth, or with the least one if the side is -1."""
    best = None
    for room, growth in found:
        if growth is not None and (best is None or compare(growth, best[0]) == side):
            best = (growth, room)
    if best is None:
        raise TooLate(person)
    growth, room = best
    return (growth, room, tuple(path_by(house.state, person, room, goal)))


def moments_left(state, person, goal, clock, reading):
    """Check what a trip is about, and return in how many moments the clock shows the reading."""
    check_person(state, person)
    check_room(state, goal)
    check_room(state, clock)
    present = state.readings[clock]
    if not is_number(reading) or compare(reading, present) < 0:
        raise InvalidReading(reading)
    if person in state.walks:
        raise Walking(person)
    rate = room_rate(state, clock)
    if rate == ZERO:
        raise StandsStill(clock)
    return divide(subtract(reading, present), rate)


def path_by(state, person, room, goal):
    """Return the rooms on the shortest ways of a person to a room and from there to the goal."""
    start = path_between(state, state.spots[person], room)
    return start + path_between(state, room, goal)[1:]


def growth_by(state, person, room, path, moments):
    """Return how much the watch grows on a path with one stay in a room; None if it is not possible."""
    ways = ZERO
    walking = ZERO
    for left, entered in zip(path, path[1:]):
        rate = room_rate(state, left)
        if rate == ZERO:
            return None
        way = way_between(state, left, entered)
        ways = add(ways, way)
        walking = add(walking, divide(way, rate))
    stay = subtract(moments, walking)
    if compare(stay, ZERO) < 0:
        return None
    return multiply(state.factors[person], add(ways, multiply(stay, room_rate(state, room))))
