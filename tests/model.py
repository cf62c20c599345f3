"""A second, slow way to wait: from one event to the next, and random houses to compare on."""

from fractions import Fraction

from roompace.house import House
from roompace.texts import house_text


def pair(fraction):
    return (fraction.numerator, fraction.denominator)


class Model:
    """What a text tells about a house, led on step by step with Fractions."""

    def __init__(self, text):
        self.rooms, self.people, self.bells, self.alarms = {}, {}, {}, {}
        self.diary = None
        for line in text.split("\n"):
            word, name, *rest = line.split(" ")
            if word == "house":
                self.rooms[name] = {"around": None, "pace": Fraction(1), "time": Fraction(rest[0])}
            elif word == "room":
                self.rooms[name] = {"around": rest[0], "pace": Fraction(rest[1]), "time": Fraction(rest[3])}
            elif word == "person":
                self.people[name] = {"place": rest[0], "factor": Fraction(rest[1]), "time": Fraction(rest[2]), "goal": None}
                if len(rest) > 3:
                    self.people[name]["goal"] = rest[4]
                    self.people[name]["end"] = Fraction(rest[5])
            elif word == "bell":
                self.bells[name] = (rest[0], Fraction(rest[1]))
            else:
                self.alarms[name] = (rest[0], Fraction(rest[1]))

    def rate(self, name):
        if name in self.people:
            return self.people[name]["factor"] * self.rate(self.people[name]["place"])
        around = self.rooms[name]["around"]
        return Fraction(1) if around is None else self.rooms[name]["pace"] * self.rate(around)

    def time(self, name):
        return (self.rooms.get(name) or self.people.get(name))["time"]

    def until(self, name, reading):
        """Moments until the reading at the present rate, None if it stands still."""
        rate = self.rate(name)
        return None if rate == 0 else (reading - self.time(name)) / rate

    def coming(self):
        """All events that come next of their kind and name, if no rate changes: (moment, kind, name)."""
        found = []
        for name, person in self.people.items():
            if person["goal"] is not None:
                found.append((self.until(person["place"], person["end"]), 0, name))
        for name, (keeper, reading) in self.alarms.items():
            found.append((self.until(keeper, reading), 1, name))
        for name, (room, step) in self.bells.items():
            multiple = (self.time(room) // step + 1) * step
            found.append((self.until(room, multiple), 2, name))
        return [event for event in found if event[0] is not None]

    def pass_moments(self, moments):
        rates = {name: self.rate(name) for name in list(self.rooms) + list(self.people)}
        for name in rates:
            row = self.rooms.get(name) or self.people.get(name)
            row["time"] += moments * rates[name]
        if self.diary is not None:
            self.diary.note(self)

    def happen(self, kind, name, viewpoint):
        if kind == 0:
            person = self.people[name]
            person["place"], person["goal"] = person["goal"], None
            where = person["place"]
        else:
            where = (self.alarms.pop(name) if kind == 1 else self.bells[name])[0]
        return (pair(self.time(viewpoint)), ("arrival", "alarm", "stroke")[kind], name, where)

    def wait(self, amount, by, viewpoint, most=500):
        """The events of a wait, or None if it is never reached or there are too many."""
        end = self.time(by) + Fraction(*amount)
        events = []
        while True:
            coming = self.coming()
            reached = self.until(by, end)
            if reached is None and not any(kind == 0 for _, kind, _ in coming):
                return None
            first = min([moment for moment, _, _ in coming] + ([] if reached is None else [reached]))
            self.pass_moments(first)
            for _, kind, name in sorted(event for event in coming if event[0] == first):
                events.append(self.happen(kind, name, viewpoint))
            if self.time(by) == end:
                return events
            if len(events) > most:
                return None


def random_number(chance, most):
    return pair(Fraction(chance.randint(1, most), chance.randint(1, 6)))


def random_deed(chance, house):
    """A deed that mostly fits."""
    rooms, people = house.rooms(), house.people()
    name = chance.choice("abcdefghijklmnopqrstuvwxyz")
    room = chance.choice(rooms)
    person = chance.choice(people or rooms)
    pace = (0, 1) if chance.random() < 0.15 else random_number(chance, 5)
    return chance.choice([
        ("build", name, room, pace, random_number(chance, 9)),
        ("pace", room, pace),
        ("carry", room, chance.choice(rooms)),
        ("come", name, room, random_number(chance, 4)),
        ("walk", person, chance.choice(rooms)),
        ("walk", person, chance.choice(rooms)),
        ("hang", name, room, random_number(chance, 12)),
        ("alarm", name, chance.choice(rooms + people), random_number(chance, 60)),
        ("alarm", name, chance.choice(rooms + people), random_number(chance, 60)),
    ])


def random_house(chance, deeds=40):
    """A house after some deeds and waits, with a random viewpoint."""
    house = House("yard")
    for _ in range(deeds):
        deed = random_deed(chance, house)
        if chance.random() < 0.1:
            deed = ("wait", random_number(chance, 4), None)
        try:
            house.do(deed)
        except (ValueError, RuntimeError, LookupError):
            pass
    house.viewpoint = chance.choice(house.rooms())
    return house


class Diary:
    """The readings of every timekeeper of a house at many moments, written down by the model."""

    def __init__(self, house):
        self.tracks = {}
        self.note(Model(house_text(house)))

    def note(self, model):
        """Write down a point (moment, reading) for each timekeeper."""
        moment = next(room["time"] for room in model.rooms.values() if room["around"] is None)
        for name in list(model.rooms) + list(model.people):
            self.tracks.setdefault(name, []).append((moment, model.time(name)))

    def do(self, house, deed):
        """Do a deed, if it fits, and write down what happens then."""
        before = house_text(house)
        try:
            house.do(deed)
        except (ValueError, RuntimeError, LookupError):
            return
        if deed[0] == "wait":
            model = Model(before)
            model.diary = self
            model.wait(deed[1], deed[2] or house.viewpoint, house.viewpoint)
        self.note(Model(house_text(house)))

    def since(self, name, start):
        """The points of a timekeeper from a moment on."""
        track = self.tracks[name]
        return [(start, self.reading(name, start))] + [point for point in track if point[0] > start]

    def reading(self, name, moment):
        """What a timekeeper showed at a moment."""
        track = self.tracks[name]
        for (begin, first), (end, last) in zip(track, track[1:]):
            if begin <= moment <= end and begin < end:
                return first + (last - first) * (moment - begin) / (end - begin)
        return track[-1][1]

    def convert(self, reading, of, to):
        """What `to` showed first and last while `of` showed the reading; None if that never was."""
        start = max(self.tracks[of][0][0], self.tracks[to][0][0])
        track = self.since(of, start)
        moments = [moment for moment, shown in track if shown == reading]
        for (begin, first), (end, last) in zip(track, track[1:]):
            if first < reading < last:
                moments.append(begin + (reading - first) * (end - begin) / (last - first))
        if not moments:
            return None
        return (pair(self.reading(to, min(moments))), pair(self.reading(to, max(moments))))


def random_life(chance, deeds=40):
    """A house after some deeds and waits, with its diary."""
    house = House("yard")
    diary = Diary(house)
    for _ in range(deeds):
        if chance.random() < 0.3:
            deed = ("wait", random_number(chance, 9), chance.choice((None,) + house.rooms() + house.people()))
        else:
            deed = random_deed(chance, house)
        diary.do(house, deed)
    house.viewpoint = chance.choice(house.rooms())
    return house, diary
