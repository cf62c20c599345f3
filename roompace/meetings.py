"""Meetings: people in one room, and timekeepers that show the same."""

from roompace.deeds import check_person, check_timekeeper
from roompace.errors import Apart
from roompace.motion import ZERO, moments_to_arrival, reading_after
from roompace.numbers import add, compare, divide, multiply, subtract


def meet(house, *people):
    """Return the readings of the watches of people who are in one room."""
    state = house.state
    for person in people:
        check_person(state, person)
    for person in people:
        if state.spots[person] != state.spots[people[0]]:
            raise Apart(person)
    return tuple([state.readings[person] for person in people])


def first_equal(house, first, second):
    """Return the reading that two timekeepers show when, from now on, they first show the same one.

    None if that never comes.
    """
    state = house.state
    check_timekeeper(state, first)
    check_timekeeper(state, second)
    moment = moment_without_lead(state, first, second)
    return None if moment is None else reading_after(state, first, moment)


def moment_without_lead(state, first, second):
    """Return the first moment from now on at which neither timekeeper is ahead, None if there is none."""
    begin = ZERO
    lead = lead_after(state, first, second, begin)
    if lead == ZERO:
        return begin
    for end in arrivals_of(state, first, second):
        later = lead_after(state, first, second, end)
        if compare(later, ZERO) != compare(lead, ZERO):
            part = divide(lead, subtract(lead, later))
            return add(begin, multiply(part, subtract(end, begin)))
        begin, lead = end, later
    # From here on the lead changes evenly for ever.
    loss = subtract(lead, lead_after(state, first, second, add(begin, (1, 1))))
    if compare(loss, ZERO) != compare(lead, ZERO):
        return None
    return add(begin, divide(lead, loss))


def lead_after(state, first, second, moments):
    """Return by how much one timekeeper will be ahead of another one after some moments."""
    return subtract(reading_after(state, first, moments), reading_after(state, second, moments))


def arrivals_of(state, first, second):
    """Return the moments at which one of two timekeepers arrives in a room, in their order."""
    moments = [moments_to_arrival(state, name) for name in (first, second)]
    known = [moment for moment in moments if moment is not None]
    if len(known) == 2 and compare(known[0], known[1]) > 0:
        known = [known[1], known[0]]
    return known
