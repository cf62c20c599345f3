"""The deed wait: how long it lasts, its events, and the state after it."""

from math import lcm

from roompace.bells import rhythm_of, stroke_count
from roompace.deeds import check_timekeeper
from roompace.errors import InvalidAmount, NeverReached, TooLong, TooMany
from roompace.motion import moments_to_arrival, moments_until, reading_after, room_rate
from roompace.numbers import add, compare, is_positive, multiply, number, subtract
from roompace.state import copied

MOST_DIGITS = 400

# Events at one moment happen in the order of these kinds.
KINDS = ("arrival", "alarm", "stroke")
ARRIVAL = 0
ALARM = 1
STROKE = 2


def waited(state, amount, by, most_events):
    """Return the state after a wait by a timekeeper, and the events of the wait.

    An event is a tuple of its moment from now, kind, name and where; they stand in order.
    """
    moments = moments_of_wait(state, amount, by)
    rows = arrivals_within(state, moments) + alarms_within(state, moments)
    strokes = sum([stroke_count(state, bell, moments) for bell in state.bell_table])
    # Strokes are counted before they are listed: there may be far too many.
    if len(rows) + strokes > most_events:
        raise TooMany(most_events)
    later = state_after(state, moments)
    check_digits(later)
    for bell in state.bell_table:
        rows.extend(strokes_within(state, bell, moments))
    events = in_order(rows)
    later.past = state.past + readings_at_changes(state, events)
    return later, events


def moments_of_wait(state, amount, by):
    if not is_positive(amount):
        raise InvalidAmount(amount)
    check_timekeeper(state, by)
    moments = moments_until(state, by, amount)
    if moments is None:
        raise NeverReached(by)
    return moments


def is_within(moment, moments):
    return moment is not None and compare(moment, moments) <= 0


def arrivals_within(state, moments):
    rows = []
    for person in state.walks:
        moment = moments_to_arrival(state, person)
        if is_within(moment, moments):
            goal, _ = state.walks[person]
            rows.append((moment, ARRIVAL, person, goal))
    return rows


def alarms_within(state, moments):
    rows = []
    for alarm in state.alarm_table:
        keeper, reading = state.alarm_table[alarm]
        growth = subtract(reading, state.readings[keeper])
        moment = moments_until(state, keeper, growth)
        if is_within(moment, moments):
            rows.append((moment, ALARM, alarm, keeper))
    return rows


def strokes_within(state, bell, moments):
    room, _ = state.bell_table[bell]
    rhythm = rhythm_of(state, bell)
    if rhythm is None:
        return []
    first, every = rhythm
    rows = []
    for k in range(stroke_count(state, bell, moments)):
        rows.append((add(first, multiply(number(k), every)), STROKE, bell, room))
    return rows


def in_order(rows):
    """Return events in the order in which they happen, with the words of their kinds."""
    scale = 1
    for row in rows:
        scale = lcm(scale, row[0][1])
    # Multiplied by the scale, all moments are integers, which tell their order.
    ranked = sorted([(row[0][0] * (scale // row[0][1]), row[1], row[2], row) for row in rows])
    return [(row[0], KINDS[kind], name, row[3]) for _, kind, name, row in ranked]


def readings_after(state, moments):
    """Return the table of readings after some moments."""
    return {name: reading_after(state, name, moments) for name in state.readings}


def readings_at_changes(state, events):
    """Return the tables of readings at the beginning of a wait and at its arrivals.

    Nothing else in a wait changes a rate.
    """
    tables = [state.readings]
    for event in events:
        if event[1] == KINDS[ARRIVAL]:
            tables.append(readings_after(state, event[0]))
    return tuple(tables)


def state_after(state, moments):
    """Return the state after some moments in which all events happen."""
    later = copied(state)
    later.readings = readings_after(state, moments)
    for person in state.walks:
        goal, end = state.walks[person]
        if compare(later.readings[state.spots[person]], end) >= 0:
            later.spots[person] = goal
            del later.walks[person]
    for alarm in state.alarm_table:
        keeper, reading = state.alarm_table[alarm]
        if compare(later.readings[keeper], reading) >= 0:
            del later.alarm_table[alarm]
    return later


def check_digits(state):
    """Raise TooLong if a reading has too many digits above or below."""
    greatest = int("9" * MOST_DIGITS)
    for name in state.readings:
        above, below = state.readings[name]
        if above > greatest or below > greatest:
            raise TooLong(MOST_DIGITS)


def events_seen(state, rows, viewpoint):
    """Return the tuple of events, with readings of the clock of the viewpoint."""
    begin = state.readings[viewpoint]
    rate = room_rate(state, viewpoint)
    seen = []
    for moment, kind, name, where in rows:
        seen.append((add(begin, multiply(rate, moment)), kind, name, where))
    return tuple(seen)
