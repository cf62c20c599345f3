"""Reading numbers and states from their texts."""

from roompace.deeds import alarm_added, bell_hung, built, joined, walk_begun
from roompace.errors import (
    InvalidName, InvalidNumber, InvalidReading, InvalidText, MissingError, PaceError, StateError,
)
from roompace.lines import state_text
from roompace.numbers import compare, number, number_text
from roompace.state import State, is_plain_name

MOST_DIGITS = 420
MOST_READING_DIGITS = 400

# How many words a line may have, by its first word.
WORD_COUNTS = {"house": (3,), "room": (6,), "person": (5, 8), "bell": (4,), "alarm": (4,)}


def number_in(text, most_digits=MOST_DIGITS):
    """Return the number that has this text; InvalidNumber if there is none."""
    body = text[1:] if text.startswith("-") else text
    above, slash, below = body.partition("/")
    if not slash:
        below = "1"
    if not is_digits(above, most_digits) or not is_digits(below, most_digits) or int(below) == 0:
        raise InvalidNumber(text)
    sign = 1 if body == text else -1
    value = number(sign * int(above), int(below))
    # Each number has one text, so leading zeros and the like are wrong.
    if number_text(value) != text:
        raise InvalidNumber(text)
    return value


def is_digits(text, most):
    return 1 <= len(text) <= most and all(["0" <= sign <= "9" for sign in text])


def reading_in(text):
    """Return the reading of a timekeeper that has this text."""
    reading = number_in(text, MOST_READING_DIGITS)
    if reading[0] < 0:
        raise InvalidReading(reading)
    return reading


def read_state(text, limits):
    """Return the state that has this text.

    The limits are how many rooms, people, bells and alarms there may be.
    """
    if not isinstance(text, str):
        raise InvalidText(0)
    state = None
    told = ""
    for index, line in enumerate(text.split("\n")):
        state = state_with_line(state, line, index, limits)
        told = line if index == 0 else f"{told}\n{line}"
        # A thing that is told in the wrong order stands elsewhere in the text of its state.
        if state_text(state) != told:
            raise InvalidText(index)
    return state


def state_with_line(state, line, index, limits):
    words = line.split(" ")
    if len(words) not in WORD_COUNTS.get(words[0], ()):
        raise InvalidText(index)
    # The house is told in the first line and in no other one.
    if (words[0] == "house") != (index == 0):
        raise InvalidText(index)
    try:
        return state_with_words(state, words, limits)
    except (PaceError, StateError, MissingError):
        raise InvalidText(index) from None


def state_with_words(state, words, limits):
    """Return the state with what a line tells; any error of a deed if it does not fit."""
    most_rooms, most_people, most_bells, most_alarms = limits
    word, name, *rest = words
    if word == "house":
        return state_of_house(name, rest)
    if word == "room":
        return state_with_room(state, name, rest, most_rooms)
    if word == "person":
        return state_with_person(state, name, rest, most_people)
    if word == "bell":
        return bell_hung(state, name, rest[0], number_in(rest[1]), most_bells)
    return alarm_added(state, name, rest[0], number_in(rest[1]), most_alarms)


def state_of_house(name, rest):
    if not is_plain_name(name):
        raise InvalidName(name)
    state = State(name)
    state.readings[name] = reading_in(rest[0])
    return state


def state_with_room(state, name, rest, most):
    around, pace, way, reading = rest
    later = built(state, name, around, number_in(pace), number_in(way), most)
    later.readings[name] = reading_in(reading)
    return later


def state_with_person(state, name, rest, most):
    room, factor, reading = rest[:3]
    later = joined(state, name, room, number_in(factor), most)
    later.readings[name] = reading_in(reading)
    if len(rest) == 3:
        return later
    # That the word before the goal is right shows when the text of the state is compared.
    _, goal, end = rest[3:]
    return state_with_walk(later, name, goal, number_in(end))


def state_with_walk(state, person, goal, end):
    later = walk_begun(state, person, goal)
    # A walk that begins now ends as late as any.
    _, latest = later.walks[person]
    start = later.readings[later.spots[person]]
    if compare(end, start) <= 0 or compare(end, latest) > 0:
        raise InvalidReading(end)
    later.walks[person] = (goal, end)
    return later
