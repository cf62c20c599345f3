"""Bells that strike together."""

from math import gcd, lcm

from roompace.bells import bells_meant, in_whole_units, rhythms_of
from roompace.errors import NeverTogether, Silent
from roompace.numbers import multiply, number


def together(house, *bells):
    """Return in how many moments some bells first strike together, and every how many moments then."""
    state = house.state
    meant = bells_meant(state, bells)
    if len(meant) == 0:
        raise Silent(())
    rhythms = rhythms_of(state, meant)
    for bell in meant:
        if bell not in rhythms:
            raise NeverTogether(("still", bell))
    unit, whole = in_whole_units(rhythms)
    check_pairs(whole, meant)
    moment, period = 0, 1
    for bell in meant:
        moment, period = common_rhythm((moment, period), whole[bell])
    # The remainder 0 stands for the moment of one whole period: now, nothing strikes.
    first = moment if moment > 0 else period
    return (multiply(number(first), unit), multiply(number(period), unit))


def check_pairs(whole, bells):
    """Raise NeverTogether for the first two bells, if there are such, that never strike together."""
    for place, bell in enumerate(bells):
        for other in bells[place + 1:]:
            if not can_meet(whole[bell], whole[other]):
                raise NeverTogether(("apart", bell, other))


def can_meet(rhythm, other):
    return (rhythm[0] - other[0]) % gcd(rhythm[1], other[1]) == 0


def common_rhythm(rhythm, other):
    """Return the remainder and the period of the moments at which two rhythms, which can meet, both strike."""
    first, every = rhythm
    other_first, other_every = other
    shared = gcd(every, other_every)
    period = lcm(every, other_every)
    times = (other_first - first) // shared * inverse(every // shared, other_every // shared)
    return (first + times * every) % period, period


def inverse(value, modulus):
    """Return the integer from 0 up to the modulus whose product with the value leaves the remainder 1.

    The value and the modulus have no common divisor. For the modulus 1, where no remainder is 1, it is 0.
    """
    rest, after = modulus, value % modulus
    factor, later = 0, 1
    while after > 0:
        times = rest // after
        rest, after = after, rest - times * after
        factor, later = later, factor - times * later
    return factor % modulus
