"""What the document promises over the whole program, told by all modules together, on random houses."""

import random
import unittest
from fractions import Fraction

from roompace.desk import Desk
from roompace.errors import NeverReached, NeverShown, NeverTogether, Silent, StandsStill, TooMany
from roompace.house import House
from roompace.meetings import first_equal, meet
from roompace.numbers import add, compare, divide, multiply, number_text, subtract
from roompace.parsing import parse_house
from roompace.past import convert, forecast
from roompace.previews import events
from roompace.seen import seen_from
from roompace.strokes import count_strokes, first_strokes, nth_stroke
from roompace.texts import house_text
from roompace.together import together
from roompace.trials import Trial, tried
from roompace.trips import oldest, trips, youngest
from roompace.views import View, viewed
from tests.helpers import all_with_past, check_error, past_of, read
from tests.model import pair, random_deed, random_house, random_life, random_number

ERRORS = (ValueError, RuntimeError, LookupError)


def told(ask):
    """What a call returns, or its error with its fields."""
    try:
        return ask()
    except ERRORS as error:
        return (error.__class__, sorted(vars(error).items()))


def without_readings(answer):
    """What a deed returned, without the readings of the viewpoint."""
    if isinstance(answer, tuple) and answer and isinstance(answer[0], tuple):
        return [event[1:] for event in answer]
    return answer


def names_of(house):
    return house.rooms() + house.people()


def times(house):
    return {name: house.timekeeper(name).time for name in names_of(house)}


def open_rooms(house):
    """The rooms from which the house can be seen."""
    found = []
    for room in house.rooms():
        try:
            seen_from(house, room)
            found.append(room)
        except StandsStill:
            pass
    return found


def without(house, *kinds):
    """The house without its lines of some kinds."""
    return read(*[line for line in house_text(house).split("\n") if line.split(" ")[0] not in kinds])


class PastTest(unittest.TestCase):
    """Points [2] and [16] to [19]."""

    def lives(self, seed, many):
        chance = random.Random(seed)
        for _ in range(many):
            yield chance, *random_life(chance)

    def check_begins_now(self, house):
        """All that was ever shown are the present readings."""
        for of in names_of(house):
            for to in names_of(house):
                shown = house.timekeeper(to).time
                self.assertEqual(convert(house, house.timekeeper(of).time, of, to), (shown, shown))
                for other in (subtract(house.timekeeper(of).time, (1, 7)), add(house.timekeeper(of).time, (1, 7)), (-1, 1)):
                    check_error(self, NeverShown, {"reading": other}, lambda: convert(house, other, of, to))

    def test_a_past_begins_with_a_new_house_a_read_one_and_a_seen_one(self):
        self.check_begins_now(House("yard"))
        for _, house, _ in self.lives(161, 15):
            self.check_begins_now(parse_house(house_text(house)))
            self.check_begins_now(House.read(house_text(house)))
            self.check_begins_now(Desk(house_text(house)).house)
            for room in open_rooms(house):
                self.check_begins_now(seen_from(house, room))

    def test_a_past_stays(self):
        for chance, house, diary in self.lives(162, 20):
            before = {}
            for of in names_of(house):
                for to in names_of(house):
                    for _, reading in diary.tracks[of][:4]:
                        if pair(reading) != house.timekeeper(of).time:
                            before[pair(reading), of, to] = told(lambda: convert(house, pair(reading), of, to))
            for _ in range(15):
                deed = random_deed(chance, house)
                diary.do(house, deed if chance.random() < 0.6 else ("wait", random_number(chance, 5), None))
            for key in before:
                self.assertEqual(told(lambda: convert(house, *key)), before[key])

    def test_of_copies_and_trials(self):
        for chance, house, diary in self.lives(163, 15):
            before = all_with_past(house)
            twin = house.copy()
            self.assertEqual(all_with_past(twin), before)
            with Trial(house):
                for _ in range(5):
                    told(lambda: house.do(random_deed(chance, house)))
                    told(lambda: house.wait(random_number(chance, 5)))
                told(lambda: viewed(house, chance.choice(house.rooms()), ("wait", (1, 1), None)))
            self.assertEqual(all_with_past(house), before)
            told(lambda: tried(house, ("wait", (3, 1), house.outermost), ("wait", (0, 1), None)))
            self.assertEqual(all_with_past(house), before)
            for _ in range(5):
                told(lambda: twin.do(random_deed(chance, twin)))
                told(lambda: twin.wait(random_number(chance, 5)))
            self.assertEqual(all_with_past(house), before)

    def test_of_houses_that_were_read_or_seen_and_led_on(self):
        for chance, house, _ in self.lives(164, 20):
            begin = times(house)
            others = [parse_house(house_text(house))] + [seen_from(house, room) for room in open_rooms(house)]
            amount, by = random_number(chance, 9), chance.choice(names_of(house))
            answer = without_readings(told(lambda: house.wait(amount, by=by)))
            for other in others:
                self.assertEqual(without_readings(told(lambda: other.wait(amount, by=by))), answer)
                for of in begin:
                    middle = pair((Fraction(*begin[of]) + Fraction(*house.timekeeper(of).time)) / 2)
                    for to in begin:
                        for reading in (middle, house.timekeeper(of).time):
                            least, greatest = convert(other, reading, of, to)
                            if reading != begin[of]:
                                self.assertEqual((least, greatest), convert(house, reading, of, to))
                            self.assertLessEqual(compare(begin[to], least), 0)
                            self.assertLessEqual(compare(greatest, house.timekeeper(to).time), 0)

    def test_waits_that_are_cut_have_one_past(self):
        for chance, house, _ in self.lives(165, 20):
            by = chance.choice(names_of(house))
            whole, cut = house.copy(), house.copy()
            if isinstance(told(lambda: whole.wait((6, 1), by=by)), tuple) and house_text(whole) != house_text(house):
                for _ in range(6):
                    cut.wait((1, 1), by=by)
                self.assertEqual(past_of(cut), past_of(whole))


class ForecastTest(unittest.TestCase):
    """Points [13] and [16] to [19]."""

    def test_forecasts_come_true(self):
        chance = random.Random(171)
        true = 0
        while true < 100:
            house = without(random_house(chance), "bell")
            names = names_of(house)
            of, growth = chance.choice(names), random_number(chance, 15)
            reading = add(house.timekeeper(of).time, growth)
            forecasts = {to: told(lambda: forecast(house, reading, of, to)) for to in names}
            twin = house.copy()
            try:
                twin.wait(growth, by=of)
            except NeverReached:
                self.assertEqual(forecasts, {to: (NeverReached, [("name", of)]) for to in names})
                continue
            true += 1
            self.assertEqual(forecasts, times(twin))
            for to in names:
                least, greatest = convert(twin, reading, of, to)
                self.assertEqual((least, greatest), (forecasts[to], forecasts[to]))

    def test_by_waits_that_are_cut_and_seen_from_everywhere(self):
        chance = random.Random(172)
        for _ in range(40):
            house = without(random_house(chance), "bell")
            names = names_of(house)
            of, to = chance.choice(names), chance.choice(names)
            reading = add(house.timekeeper(of).time, random_number(chance, 15))
            expected = told(lambda: forecast(house, reading, of, to))
            others = [parse_house(house_text(house))] + [seen_from(house, room) for room in open_rooms(house)]
            for other in others:
                self.assertEqual(told(lambda: forecast(other, reading, of, to)), expected)
            part = divide(subtract(reading, house.timekeeper(of).time), (3, 1))
            for _ in range(2):
                try:
                    house.wait(part, by=of)
                except NeverReached:
                    break
                self.assertEqual(told(lambda: forecast(house, reading, of, to)), expected)

    def test_never_reached_agrees_with_the_wait(self):
        house = read("house yard 0", "room hall yard 0 3 0", "person ann yard 2 0 to hall 3", "person bob hall 1 0 to yard 3")
        for of, growth, possible in (("ann", (6, 1), True), ("ann", (61, 10), False), ("bob", (1, 1), False), ("hall", (1, 1), False)):
            for ask in (lambda: house.copy().wait(growth, by=of), lambda: forecast(house, growth, of, "yard")):
                if possible:
                    ask()
                else:
                    check_error(self, NeverReached, {"name": of}, ask, house)


class ViewTest(unittest.TestCase):
    """Points [14] and [18] to [22]."""

    def houses(self, seed, many):
        chance = random.Random(seed)
        for _ in range(many):
            yield chance, random_house(chance)

    def test_a_viewpoint_and_a_house_seen_from_it(self):
        for chance, house in self.houses(181, 40):
            amount, by = random_number(chance, 9), chance.choice(names_of(house))
            for room in open_rooms(house):
                other = seen_from(house, room)
                expected = told(lambda: tuple(events(other, amount, by=by)))
                with View(house, room):
                    self.assertEqual(told(lambda: tuple(events(house, amount, by=by))), expected)
                self.assertEqual(told(lambda: viewed(house, room, ("wait", (1, 10 ** 6), None))[0]),
                                 told(lambda: other.wait((1, 10 ** 6))))
                break

    def test_readings_of_events_are_forecast_for_every_viewpoint(self):
        for chance, house in self.houses(182, 30):
            try:
                rows = list(events(house, (5, 1), by=house.outermost))
            except TooMany:
                continue
            with View(house, house.outermost):
                moments = [row[0] for row in events(house, (5, 1))]
            for room in house.rooms():
                with View(house, room):
                    seen = list(events(house, (5, 1), by=house.outermost))
                self.assertEqual([row[1:] for row in seen], [row[1:] for row in rows])
                for row, moment in zip(seen, moments):
                    self.assertEqual(row[0], forecast(house, moment, house.outermost, room))

    def test_trips_and_meetings_from_everywhere(self):
        possible = 0
        for chance, house in self.houses(183, 60):
            names = names_of(house)
            people = [name for name in house.people() if house.timekeeper(name).goal is None]
            rooms = open_rooms(house)
            clock, goal = chance.choice(rooms), chance.choice(house.rooms())
            reading = add(house.timekeeper(clock).time, random_number(chance, 60))
            for room in rooms:
                other = seen_from(house, room)
                for first in names:
                    second = chance.choice(names)
                    self.assertEqual(first_equal(other, first, second), first_equal(house, first, second))
                self.assertEqual(told(lambda: meet(other, *house.people())), told(lambda: meet(house, *house.people())))
                for person in people:
                    for function in (trips, oldest, youngest):
                        answer = told(lambda: function(house, person, goal, clock, reading))
                        self.assertEqual(told(lambda: function(other, person, goal, clock, reading)), answer)
                    possible += any(growth is not None for _, growth in trips(house, person, goal, clock, reading))
        self.assertGreater(possible, 60)

    def test_a_trip_in_a_time_that_is_told_by_another_clock(self):
        for chance, house in self.houses(184, 40):
            people = [name for name in house.people() if house.timekeeper(name).goal is None]
            clocks = [room for room in house.rooms() if house.timekeeper(room).rate != (0, 1)]
            if people:
                goal, clock = chance.choice(house.rooms()), chance.choice(clocks)
                reading = add(house.moment, random_number(chance, 40))
                other = forecast(house, reading, house.outermost, clock)
                self.assertEqual(trips(house, people[0], goal, clock, other),
                                 trips(house, people[0], goal, house.outermost, reading))


class StrokesTest(unittest.TestCase):
    """Points [17] and [19] to [21]."""

    def test_from_everywhere(self):
        chance = random.Random(191)
        seen = met = 0
        for _ in range(40):
            house = random_house(chance)
            bells = [chance.choice(house.bells()) for _ in range(chance.randint(0, 3))] if house.bells() else []
            common = told(lambda: together(house, *bells))
            far = [told(lambda: nth_stroke(house, n, *bells)) for n in (0, 3, 10 ** 18)]
            rows = list(first_strokes(house, 12, *bells))
            for room in open_rooms(house):
                other = seen_from(house, room)
                scale = house.timekeeper(room).rate
                amount = random_number(chance, 40)
                # Moments from now are growths of the clock of the outermost room.
                self.assertEqual(count_strokes(other, multiply(amount, scale), *bells), count_strokes(house, amount, *bells))
                self.assertEqual(list(first_strokes(other, 12, *bells)), [(multiply(moment, scale), bell) for moment, bell in rows])
                found = [told(lambda: nth_stroke(other, n, *bells)) for n in (0, 3, 10 ** 18)]
                again = told(lambda: together(other, *bells))
                if rows:
                    seen += 1
                    self.assertEqual(found, [(multiply(moment, scale), bell) for moment, bell in far])
                else:
                    self.assertEqual(found, far)
                    self.assertIs(far[0][0], Silent)
                if common[0] in (NeverTogether, Silent):
                    self.assertEqual(again, common)
                else:
                    met += 1
                    self.assertEqual(again, tuple(multiply(span, scale) for span in common))
        self.assertTrue(seen > 60 and met > 30, (seen, met))

    def test_the_bells_that_strike_together_are_among_the_strokes(self):
        chance = random.Random(192)
        done = 0
        while done < 25:
            house = random_house(chance)
            try:
                moment, period = together(house)
            except (NeverTogether, Silent):
                continue
            done += 1
            bells = house.bells()
            # All strokes up to this moment and, before them, those that are earlier.
            last = count_strokes(house, moment)
            self.assertEqual([nth_stroke(house, last - len(bells) + k) for k in range(len(bells))],
                             [(moment, bell) for bell in bells])
            later = count_strokes(house, add(moment, period))
            self.assertEqual(later - last, sum(Fraction(*period) / Fraction(*self.span(house, bell)) for bell in bells))

    def span(self, house, bell):
        room, step = house.bell(bell)
        return divide(step, house.timekeeper(room).rate)


class ReadTest(unittest.TestCase):
    """Points [15] to [17] and [25]."""

    def test_a_house_that_is_read_goes_on_in_the_same_way(self):
        chance = random.Random(201)
        for _ in range(25):
            house = random_house(chance)
            again = parse_house(house_text(house))
            again.viewpoint = house.viewpoint
            for _ in range(12):
                deed = random_deed(chance, house)
                if chance.random() < 0.5:
                    deed = ("wait", random_number(chance, 6), chance.choice((None,) + names_of(house)))
                self.assertEqual(told(lambda: again.do(deed)), told(lambda: house.do(deed)))
                self.assertTrue(again == house)
                self.assertEqual(times(again), times(house))
                # Reading it in between changes nothing of what follows.
                if chance.random() < 0.3:
                    again = House.read(house_text(again))
                    again.viewpoint = house.viewpoint

    def test_every_beginning_of_a_text_is_a_text_and_goes_on(self):
        """Also points [17] and [18]."""
        chance = random.Random(202)
        for _ in range(15):
            house = random_house(chance)
            lines = house_text(house).split("\n")
            for many in range(1, len(lines) + 1):
                text = "\n".join(lines[:many])
                part = parse_house(text)
                self.assertEqual(house_text(part), text)
                self.assertTrue(Desk(text).house == part)
                names = names_of(part)
                for of in names:
                    for to in names:
                        shown = house.timekeeper(to).time
                        self.assertEqual(convert(part, house.timekeeper(of).time, of, to), (shown, shown))
                        reading = add(house.timekeeper(of).time, (9, 1))
                        # Bells, alarms, and other people do not matter for the readings.
                        self.assertEqual(told(lambda: forecast(part, reading, of, to)), told(lambda: forecast(house, reading, of, to)))

    def test_readings_are_linear_between_events(self):
        chance = random.Random(203)
        done = 0
        while done < 30:
            house = random_house(chance)
            first = list(first_strokes(house, 1))
            names = names_of(house)
            rates = {name: house.timekeeper(name).rate for name in names}
            quiet = [row[0] for row in told(lambda: viewed(house.copy(), house.outermost, ("wait", (5, 1), None))[0]) or []
                     if isinstance(row, tuple) and len(row) == 4]
            if not quiet or not first:
                continue
            done += 1
            span = subtract(quiet[0], house.moment)
            begin = times(house)
            for share in ((1, 3), (1, 2), (1, 1)):
                growth = multiply(span, share)
                for name in names:
                    self.assertEqual(forecast(house, add(house.moment, growth), house.outermost, name),
                                     add(begin[name], multiply(rates[name], growth)))


class DeskTest(unittest.TestCase):
    """Points [14], [16] to [20], [25] and [26]."""

    def test_desk_and_functions_agree(self):
        chance = random.Random(211)
        for _ in range(30):
            house = random_house(chance)
            desk = Desk(house_text(house))
            house = parse_house(house_text(house))
            for _ in range(8):
                room = chance.choice(house.rooms())
                names = names_of(house)
                of, to, amount = chance.choice(names), chance.choice(names), random_number(chance, 9)
                if chance.random() < 0.3 and room in open_rooms(house):
                    house = seen_from(house, room)
                    self.assertEqual(desk.say(f"seen {room}"), "done")
                if chance.random() < 0.3:
                    house.viewpoint = room
                    self.assertEqual(desk.say(f"view {room}"), "done")
                self.assertEqual(desk.say(f"coming {number_text(amount)}"), self.rows(lambda: events(house, amount)))
                reading = add(house.timekeeper(of).time, amount)
                self.assertEqual(desk.say(f"forecast {number_text(reading)} {of} {to}"),
                                 self.words(lambda: number_text(forecast(house, reading, of, to))))
                self.assertEqual(desk.say("stroke 1000000"),
                                 self.words(lambda: " ".join([number_text(nth_stroke(house, 10 ** 6)[0]), nth_stroke(house, 10 ** 6)[1]])))
                by = chance.choice(names)
                expected = self.rows(lambda: house.wait(amount, by=by))
                self.assertEqual(desk.say(f"wait {number_text(amount)} {by}"), expected)
                middle = divide(house.timekeeper(of).time, (2, 1))
                self.assertEqual(desk.say(f"convert {number_text(middle)} {of} {to}"),
                                 self.words(lambda: " ".join([number_text(one) for one in convert(house, middle, of, to)])))
                self.assertEqual((desk.say("text"), desk.say("now")), (house_text(house), number_text(house.now)))
                for name in names:
                    self.assertEqual(desk.say(f"show {name}"), house.timekeeper(name).shown())

    def words(self, ask):
        try:
            return ask()
        except ERRORS as error:
            name = error.__class__.__name__
            return "".join(sign if sign.islower() else " " + sign.lower() for sign in name).strip()

    def rows(self, ask):
        return self.words(lambda: "; ".join([f"{number_text(row[0])} {row[1]} {row[2]} {row[3]}" for row in ask()]) or "nothing")

    def test_a_wait_that_is_cut_at_a_desk(self):
        chance = random.Random(212)
        for _ in range(30):
            text = house_text(random_house(chance))
            whole, cut = Desk(text), Desk(text)
            answer = whole.say("wait 4")
            parts = [cut.say("wait 3/2"), cut.say("wait 5/2")]
            if answer[:1].isdigit() or answer == "nothing":
                self.assertEqual("; ".join(part for part in parts if part != "nothing") or "nothing", answer)
                self.assertEqual(cut.say("text"), whole.say("text"))


class InterfaceTest(unittest.TestCase):
    """What the interface lists is defined in the file under which it lists it, and methods in their own class."""

    FUNCTIONS = {
        "numbers": """number is_number is_pace is_factor is_length add subtract multiply divide compare floor_of greatest_measure
                      least_multiple number_text""",
        "previews": "events", "views": "viewed", "trials": "tried", "meetings": "meet first_equal", "past": "convert forecast",
        "strokes": "count_strokes nth_stroke first_strokes", "together": "together", "seen": "seen_from",
        "trips": "trips oldest youngest", "texts": "house_text", "parsing": "parse_number parse_house",
    }

    METHODS = {
        "timekeepers": {
            "Timekeeper": "label time rate shown", "RoomClock": "around pace way shown", "Watch": "factor place goal shown"},
        "house": {"House": """__init__ is_name read build set_pace carry come walk hang set_alarm cancel wait do set_paces viewpoint now
                              moment outermost timekeeper rooms people bells alarms bell alarm rooms_inside copy __eq__ __len__
                              MOST_ROOMS MOST_PEOPLE MOST_BELLS MOST_ALARMS MOST_EVENTS"""},
        "views": {"View": "__init__ __enter__ __exit__"}, "trials": {"Trial": "__init__ __enter__ __exit__"},
        "desk": {"Desk": "__init__ say"},
    }

    def test_functions(self):
        for file in self.FUNCTIONS:
            module = __import__(f"roompace.{file}", fromlist=["x"])
            for name in self.FUNCTIONS[file].split():
                self.assertEqual(getattr(module, name).__module__, f"roompace.{file}", name)

    def test_methods(self):
        for file in self.METHODS:
            module = __import__(f"roompace.{file}", fromlist=["x"])
            for name in self.METHODS[file]:
                found = getattr(module, name)
                self.assertEqual(found.__module__, f"roompace.{file}")
                for method in self.METHODS[file][name].split():
                    self.assertIn(method, vars(found), (name, method))


if __name__ == "__main__":
    unittest.main()
