"""How timekeepers go on from a state if no deed is done.

Moments are growths of the clock of the outermost room. Paces do not change
without a deed, and who has arrived does not walk on. So a clock has one rate
for ever, and a watch has one rate up to an arrival and one after it.
"""

from roompace.numbers import add, compare, divide, multiply, subtract

ZERO = (0, 1)


def room_rate(state, room):
    rate = (1, 1)
    at = room
    while at != state.top:
        rate = multiply(rate, state.paces[at])
        at = state.outers[at]
    return rate


def keeper_rate(state, name):
    """Return the present rate of a timekeeper."""
    if name in state.spots:
        return multiply(state.factors[name], room_rate(state, state.spots[name]))
    return room_rate(state, name)


def moments_to_arrival(state, name):
    """Return in how many moments a timekeeper arrives in a room, None if it never does."""
    if name not in state.walks:
        return None
    room = state.spots[name]
    rate = room_rate(state, room)
    if rate == ZERO:
        return None
    _, end = state.walks[name]
    return divide(subtract(end, state.readings[room]), rate)


def rate_after_arrival(state, person):
    goal, _ = state.walks[person]
    return multiply(state.factors[person], room_rate(state, goal))


def growth_in(state, name, moments):
    """Return how much a timekeeper grows in the next moments."""
    rate = keeper_rate(state, name)
    arrival = moments_to_arrival(state, name)
    if arrival is None or compare(moments, arrival) <= 0:
        return multiply(rate, moments)
    rest = multiply(rate_after_arrival(state, name), subtract(moments, arrival))
    return add(multiply(rate, arrival), rest)


def reading_after(state, name, moments):
    """Return what a timekeeper shows after the next moments."""
    return add(state.readings[name], growth_in(state, name, moments))


def moments_until(state, name, growth):
    """Return in how many moments a timekeeper first has grown by a positive number.

    None if it never has.
    """
    rate = keeper_rate(state, name)
    if rate == ZERO:
        return None
    arrival = moments_to_arrival(state, name)
    if arrival is None or compare(growth, multiply(rate, arrival)) <= 0:
        return divide(growth, rate)
    later_rate = rate_after_arrival(state, name)
    if later_rate == ZERO:
        return None
    rest = subtract(growth, multiply(rate, arrival))
    return add(arrival, divide(rest, later_rate))
