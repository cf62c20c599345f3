"""Strokes: how many come, and which ones, without listing all of them."""

from roompace.bells import bells_meant, in_whole_units, rhythms_of, stroke_count
from roompace.errors import InvalidAmount, InvalidCount, Silent
from roompace.numbers import is_integer, is_positive, multiply, number

LAST_NUMBER = 10 ** 18
MOST_LISTED = 1000


def count_strokes(house, amount, *bells):
    """Return how often some bells strike in the next moments."""
    state = house.state
    if not is_positive(amount):
        raise InvalidAmount(amount)
    meant = bells_meant(state, bells)
    return sum([stroke_count(state, bell, amount) for bell in meant])


def nth_stroke(house, n, *bells):
    """Return the moment from now and the bell of the stroke with a number, counted from 0."""
    state = house.state
    check_count(n, LAST_NUMBER)
    meant = bells_meant(state, bells)
    rhythms = rhythms_of(state, meant)
    if len(rhythms) == 0:
        raise Silent(tuple(meant))
    unit, whole = in_whole_units(rhythms)
    moment = min([moment_with_stroke(whole, bell, n) for bell in whole])
    striking = [bell for bell in sorted(whole) if strikes_at(whole[bell], moment)]
    earlier = strokes_up_to(whole, moment) - len(striking)
    return (multiply(number(moment), unit), striking[n - earlier])


def first_strokes(house, most, *bells):
    """Yield the moments from now and the bells of the next strokes, in their order."""
    state = house.state
    check_count(most, MOST_LISTED)
    rhythms = rhythms_of(state, bells_meant(state, bells))
    if len(rhythms) == 0:
        return
    unit, whole = in_whole_units(rhythms)
    coming = {bell: whole[bell][0] for bell in whole}
    for _ in range(most):
        moment, bell = min([(coming[name], name) for name in coming])
        yield (multiply(number(moment), unit), bell)
        coming[bell] += whole[bell][1]


def check_count(count, most):
    if not is_integer(count) or not 0 <= count <= most:
        raise InvalidCount(count)


def strokes_up_to(whole, moment):
    """Return how often bells, with rhythms in whole units, strike up to and including a moment."""
    return sum([(moment - first) // every + 1 for first, every in whole.values()])


def strikes_at(rhythm, moment):
    first, every = rhythm
    return moment >= first and (moment - first) % every == 0


def moment_with_stroke(whole, bell, n):
    """Return the first moment of this bell's strokes at which the stroke n of all bells is over."""
    first, every = whole[bell]
    low = 0
    # With its own stroke n there are at least n + 1 strokes.
    high = n
    while low < high:
        middle = (low + high) // 2
        if strokes_up_to(whole, first + middle * every) > n:
            high = middle
        else:
            low = middle + 1
    return first + low * every
