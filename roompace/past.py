"""Conversions: what two timekeepers showed together, and what they will show."""

from roompace.deeds import check_timekeeper
from roompace.errors import InvalidReading, NeverReached, NeverShown
from roompace.motion import ZERO, moments_until, reading_after
from roompace.numbers import add, compare, divide, is_number, multiply, subtract


def convert(house, reading, of, to):
    """Return the least and the greatest reading that one timekeeper showed beside a reading of another one."""
    state = house.state
    check_timekeeper(state, of)
    check_timekeeper(state, to)
    if not is_number(reading):
        raise InvalidReading(reading)
    found = readings_beside(pairs_shown(state, of, to), reading)
    if len(found) == 0:
        raise NeverShown(reading)
    return (found[0], found[-1])


def pairs_shown(state, first, second):
    """Return pairs of readings that two timekeepers showed together, from the first to the present one.

    From one pair to the next, both grew evenly.
    """
    tables = [table for table in state.past if first in table and second in table]
    return [(table[first], table[second]) for table in [*tables, state.readings]]


def readings_beside(pairs, reading):
    """Return what the second timekeeper showed, ascending, when the first one showed a reading.

    If the first one stood still then, the least and the greatest one are among them.
    """
    found = []
    last = None
    for pair in pairs:
        side = compare(pair[0], reading)
        if side == 0:
            found.append(pair[1])
        elif side > 0 and last is not None and compare(last[0], reading) < 0:
            found.append(reading_between(last, pair, reading))
        last = pair
    return found


def reading_between(begin, end, reading):
    """Return the second reading on the way from one pair to another one, beside a first one."""
    part = divide(subtract(reading, begin[0]), subtract(end[0], begin[0]))
    return add(begin[1], multiply(part, subtract(end[1], begin[1])))


def forecast(house, reading, of, to):
    """Return what one timekeeper will show when another one first shows a reading."""
    state = house.state
    check_timekeeper(state, of)
    check_timekeeper(state, to)
    present = state.readings[of]
    if not is_number(reading) or compare(reading, present) < 0:
        raise InvalidReading(reading)
    growth = subtract(reading, present)
    # Who stands still shows the present reading all the same.
    moments = ZERO if growth == ZERO else moments_until(state, of, growth)
    if moments is None:
        raise NeverReached(of)
    return reading_after(state, to, moments)
