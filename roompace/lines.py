"""The text of a state: one line for each thing in the house."""

from roompace.numbers import number_text
from roompace.state import names_inside


def state_text(state):
    lines = [f"house {state.top} {number_text(state.readings[state.top])}"]
    for room in names_inside(state, state.top):
        lines.append(room_line(state, room))
    for person in sorted(state.spots):
        lines.append(person_line(state, person))
    for bell in sorted(state.bell_table):
        room, step = state.bell_table[bell]
        lines.append(f"bell {bell} {room} {number_text(step)}")
    for alarm in sorted(state.alarm_table):
        keeper, reading = state.alarm_table[alarm]
        lines.append(f"alarm {alarm} {keeper} {number_text(reading)}")
    return "\n".join(lines)


def room_line(state, room):
    pace = number_text(state.paces[room])
    way = number_text(state.ways[room])
    return f"room {room} {state.outers[room]} {pace} {way} {number_text(state.readings[room])}"


def person_line(state, person):
    factor = number_text(state.factors[person])
    line = f"person {person} {state.spots[person]} {factor} {number_text(state.readings[person])}"
    if person not in state.walks:
        return line
    goal, end = state.walks[person]
    return f"{line} to {goal} {number_text(end)}"
