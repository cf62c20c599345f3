"""Bells: which ones are meant, and when they strike while no deed is done."""

from roompace.deeds import check_bell
from roompace.motion import ZERO, reading_after, room_rate
from roompace.numbers import divide, floor_of, greatest_measure, multiply, number, subtract


def bells_meant(state, names):
    """Return the bells that are named, ascending, each once; all bells if none is named."""
    for name in names:
        check_bell(state, name)
    return [bell for bell in sorted(state.bell_table) if len(names) == 0 or bell in names]


def stroke_count(state, bell, moments):
    """Return how often a bell strikes in the next moments."""
    room, step = state.bell_table[bell]
    end = reading_after(state, room, moments)
    return floor_of(divide(end, step)) - floor_of(divide(state.readings[room], step))


def rhythm_of(state, bell):
    """Return in how many moments a bell strikes first, and every how many moments then.

    None if its room stands still.
    """
    room, step = state.bell_table[bell]
    rate = room_rate(state, room)
    if rate == ZERO:
        return None
    begin = state.readings[room]
    # A multiple that the clock shows now does not strike again.
    reading = multiply(number(floor_of(divide(begin, step)) + 1), step)
    return (divide(subtract(reading, begin), rate), divide(step, rate))


def rhythms_of(state, bells):
    """Return the table of the rhythms of those bells whose rooms run."""
    table = {}
    for bell in bells:
        rhythm = rhythm_of(state, bell)
        if rhythm is not None:
            table[bell] = rhythm
    return table


def in_whole_units(rhythms):
    """Return a number, and the table of rhythms, which is not empty, as integer multiples of it."""
    spans = [span for bell in rhythms for span in rhythms[bell]]
    unit = greatest_measure(*spans)
    whole = {}
    for bell in rhythms:
        first, every = rhythms[bell]
        whole[bell] = (divide(first, unit)[0], divide(every, unit)[0])
    return unit, whole
