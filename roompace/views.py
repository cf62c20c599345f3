"""Blocks in which a house has another viewpoint."""

from roompace.blocks import Kept, answers_to, check_deeds
from roompace.deeds import check_room


class View:
    """A block in which a room is the viewpoint; behind it the earlier one is the viewpoint again."""

    def __init__(self, house, room):
        check_room(house.state, room)
        self.house = house
        self.room = room
        self.kept = None

    def __enter__(self):
        house = self.house
        kept = Kept(house, self.kept)
        # This raises an error if a trial, which has ended since, had built the room.
        house.viewpoint = self.room
        self.kept = kept
        return house

    def __exit__(self, kind, value, trace):
        house = self.house
        house.view_room = self.kept.view_room
        self.kept = self.kept.before


def viewed(house, room, *deeds):
    """Do some deeds while a room is the viewpoint, and return the tuple of what they return."""
    view = View(house, room)
    check_deeds(deeds)
    with view:
        return answers_to(house, deeds)
