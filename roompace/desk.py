"""A desk that answers commands on a house."""

from roompace.commands import command_in
from roompace.errors import MissingError, PaceError, StateError
from roompace.meetings import first_equal
from roompace.numbers import number_text
from roompace.parsing import parse_house
from roompace.past import convert, forecast
from roompace.previews import events
from roompace.seen import seen_from
from roompace.strokes import nth_stroke
from roompace.texts import house_text
from roompace.together import together
from roompace.trips import oldest, youngest

DONE = "done"
BAD_COMMAND = "bad command"


def events_text(rows):
    if len(rows) == 0:
        return "nothing"
    return "; ".join([f"{number_text(reading)} {kind} {name} {where}" for reading, kind, name, where in rows])


def pair_text(first, second):
    return f"{number_text(first)} {number_text(second)}"


def trip_text(trip):
    growth, room, way = trip
    return " ".join([number_text(growth), room, *way])


def wait_answer(house, amount, by=None):
    return events_text(house.wait(amount, by=by))


def coming_answer(house, amount):
    rows = list(events(house, amount))
    return events_text(rows)


def show_answer(house, name):
    return house.timekeeper(name).shown()


def now_answer(house):
    return number_text(house.now)


def convert_answer(house, reading, of, to):
    least, greatest = convert(house, reading, of, to)
    return pair_text(least, greatest)


def forecast_answer(house, reading, of, to):
    return number_text(forecast(house, reading, of, to))


def equal_answer(house, first, second):
    reading = first_equal(house, first, second)
    return "never" if reading is None else number_text(reading)


def stroke_answer(house, n):
    moment, bell = nth_stroke(house, n)
    return f"{number_text(moment)} {bell}"


def together_answer(house):
    moment, period = together(house)
    return pair_text(moment, period)


def oldest_answer(house, person, goal, clock, reading):
    return trip_text(oldest(house, person, goal, clock, reading))


def youngest_answer(house, person, goal, clock, reading):
    return trip_text(youngest(house, person, goal, clock, reading))


def text_answer(house):
    return house_text(house)


# The commands that are not answered by "done".
ANSWERS = {
    "wait": wait_answer, "coming": coming_answer, "show": show_answer, "now": now_answer, "convert": convert_answer,
    "forecast": forecast_answer, "equal": equal_answer, "stroke": stroke_answer, "together": together_answer,
    "oldest": oldest_answer, "youngest": youngest_answer, "text": text_answer,
}


class Desk:
    """A house, and the answers to commands on it."""

    def __init__(self, text):
        self.house = parse_house(text)

    def say(self, command):
        """Do a command, and return its answer."""
        told = command_in(command)
        if told is None:
            return BAD_COMMAND
        word, *values = told
        try:
            return self._answer(word, values)
        except (PaceError, StateError, MissingError) as e:
            return words_of(e.__class__.__name__)

    def _answer(self, word, values):
        house = self.house
        if word in ANSWERS:
            answer = ANSWERS[word]
            return answer(house, *values)
        if word == "seen":
            self.house = seen_from(house, values[0])
        elif word == "view":
            house.viewpoint = values[0]
        else:
            # The other commands are deeds that begin with the same word.
            house.do((word, *values))
        return DONE


def words_of(name):
    """Return the name of a class in lower case, its words separated by spaces."""
    signs = [f" {sign.lower()}" if sign.isupper() else sign for sign in name]
    return "".join(signs).strip()
