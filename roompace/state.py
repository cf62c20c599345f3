"""What a house contains at one moment, with its past, and questions about its rooms.

A state that a house has is never changed: a deed makes a new one.
So a deed that raises an error changes nothing, and houses may share a state.
"""


class State:
    """The rooms, people, bells and alarms of a house, in tables by name."""

    def __init__(self, top):
        self.top = top
        self.outers = {top: None}
        self.paces = {top: (1, 1)}
        self.ways = {top: None}
        # The readings of all timekeepers, of rooms and of people.
        self.readings = {top: (0, 1)}
        self.factors = {}
        self.spots = {}
        # Who walks: (goal, reading of the clock of the left room at the arrival).
        self.walks = {}
        self.bell_table = {}
        self.alarm_table = {}
        # The tables of readings at the beginning of each earlier wait and at each arrival in it:
        # from one to the next, and to the present one, all readings grew evenly.
        self.past = ()


def copied(state):
    """Return a state that may be changed without an effect on the given one."""
    twin = State(state.top)
    twin.outers = dict(state.outers)
    twin.paces = dict(state.paces)
    twin.ways = dict(state.ways)
    twin.readings = dict(state.readings)
    twin.factors = dict(state.factors)
    twin.spots = dict(state.spots)
    twin.walks = dict(state.walks)
    twin.bell_table = dict(state.bell_table)
    twin.alarm_table = dict(state.alarm_table)
    twin.past = state.past
    return twin


def is_plain_name(thing):
    """Tell whether an object may be a name in a house."""
    if not isinstance(thing, str) or thing == "self":
        return False
    if not 1 <= len(thing) <= 8:
        return False
    return all(["a" <= letter <= "z" for letter in thing])


def is_named(table, thing):
    """Tell whether any object, also one that no dict could look up, is a name in a table."""
    return isinstance(thing, str) and thing in table


def is_taken(state, name):
    """Tell whether something in the house has the name."""
    tables = (state.readings, state.bell_table, state.alarm_table)
    return any([is_named(table, name) for table in tables])


def is_inside(state, room, outer):
    """Tell whether a room is another one or inside it."""
    return outer in rooms_outwards(state, room)


def rooms_outwards(state, room):
    """Return a room and the rooms around it, up to the outermost one."""
    line = []
    at = room
    while at is not None:
        line.append(at)
        at = state.outers[at]
    return line


def path_between(state, first, second):
    """Return the rooms of the shortest way from one room to another, both of them included."""
    rise = rooms_outwards(state, first)
    descent = rooms_outwards(state, second)
    # Both end in the outermost room; the way turns in the innermost room that they share.
    while len(rise) > 1 and len(descent) > 1 and rise[-2] == descent[-2]:
        rise.pop()
        descent.pop()
    descent.pop()
    return rise + descent[::-1]


def way_between(state, first, second):
    """Return the way between two rooms, None if they are not next door to each other."""
    if state.outers[first] == second:
        return state.ways[first]
    if state.outers[second] == first:
        return state.ways[second]
    return None


def names_inside(state, room):
    """Return the rooms right inside a room, ascending, each followed by those inside it."""
    names = []
    for name in sorted(state.outers):
        if state.outers[name] == room:
            names.append(name)
            names.extend(names_inside(state, name))
    return names
