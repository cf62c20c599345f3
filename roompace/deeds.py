"""The deeds that take no time: each checks, then returns the state after the deed."""

from roompace.errors import (
    DoorBusy, Full, InsideItself, InvalidName, InvalidNumber, InvalidPace, InvalidReading, NameTaken,
    NoAlarm, NoBell, NoPerson, NoRoom, NoTimekeeper, NotNextDoor, Outermost, Walking,
)
from roompace.numbers import add, compare, is_factor, is_length, is_number, is_pace
from roompace.state import copied, is_inside, is_named, is_plain_name, is_taken, way_between

DEED_LENGTHS = {
    "build": 5, "pace": 3, "carry": 3, "come": 4, "walk": 3, "hang": 4, "alarm": 4, "cancel": 2, "wait": 3,
}


def is_deed(thing):
    """Tell whether an object has the form of a deed, whatever its items after the word are."""
    if not isinstance(thing, tuple) or len(thing) == 0 or not isinstance(thing[0], str):
        return False
    return DEED_LENGTHS.get(thing[0], 0) == len(thing)


def check_new_name(state, name):
    if not is_plain_name(name):
        raise InvalidName(name)
    if is_taken(state, name):
        raise NameTaken(name)


def check_room(state, room):
    if not is_named(state.outers, room):
        raise NoRoom(room)


def check_person(state, person):
    if not is_named(state.spots, person):
        raise NoPerson(person)


def check_bell(state, name):
    if not is_named(state.bell_table, name):
        raise NoBell(name)


def check_timekeeper(state, name):
    if not is_named(state.readings, name):
        raise NoTimekeeper(name)


def check_space(table, most):
    if len(table) >= most:
        raise Full(most)


def built(state, room, around, pace, way, most):
    check_new_name(state, room)
    check_room(state, around)
    if not is_pace(pace):
        raise InvalidPace(pace)
    if not is_length(way):
        raise InvalidNumber(way)
    check_space(state.outers, most)
    later = copied(state)
    later.outers[room] = around
    later.paces[room] = pace
    later.ways[room] = way
    later.readings[room] = (0, 1)
    return later


def paced(state, room, pace):
    check_room(state, room)
    if room == state.top:
        raise Outermost(room)
    if not is_pace(pace):
        raise InvalidPace(pace)
    later = copied(state)
    later.paces[room] = pace
    return later


def carried(state, room, into):
    check_room(state, room)
    check_room(state, into)
    if room == state.top:
        raise Outermost(room)
    if is_inside(state, into, room):
        raise InsideItself(room)
    check_door(state, room)
    later = copied(state)
    later.outers[room] = into
    return later


def check_door(state, room):
    """Raise DoorBusy if someone walks from a room to the room around it or back."""
    door = (room, state.outers[room])
    for person in sorted(state.walks):
        goal, _ = state.walks[person]
        if state.spots[person] in door and goal in door:
            raise DoorBusy(person)


def joined(state, person, room, factor, most):
    check_new_name(state, person)
    check_room(state, room)
    if not is_factor(factor):
        raise InvalidNumber(factor)
    check_space(state.spots, most)
    later = copied(state)
    later.spots[person] = room
    later.factors[person] = factor
    later.readings[person] = (0, 1)
    return later


def walk_begun(state, person, room):
    check_person(state, person)
    check_room(state, room)
    if person in state.walks:
        raise Walking(person)
    start = state.spots[person]
    way = way_between(state, start, room)
    if way is None:
        raise NotNextDoor(room)
    later = copied(state)
    later.walks[person] = (room, add(state.readings[start], way))
    return later


def bell_hung(state, bell, room, step, most):
    check_new_name(state, bell)
    check_room(state, room)
    if not is_length(step):
        raise InvalidNumber(step)
    check_space(state.bell_table, most)
    later = copied(state)
    later.bell_table[bell] = (room, step)
    return later


def alarm_added(state, alarm, keeper, reading, most):
    check_new_name(state, alarm)
    check_timekeeper(state, keeper)
    if not is_number(reading) or compare(reading, state.readings[keeper]) <= 0:
        raise InvalidReading(reading)
    check_space(state.alarm_table, most)
    later = copied(state)
    later.alarm_table[alarm] = (keeper, reading)
    return later


def alarm_cancelled(state, alarm):
    if not is_named(state.alarm_table, alarm):
        raise NoAlarm(alarm)
    later = copied(state)
    del later.alarm_table[alarm]
    return later
