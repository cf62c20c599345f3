"""Blocks behind which a house is as it was before."""

from roompace.blocks import Kept, answers_to, check_deeds


class Trial:
    """A block in which deeds are done for a trial; behind it none of them was done."""

    def __init__(self, house):
        self.house = house
        self.kept = None

    def __enter__(self):
        self.kept = Kept(self.house, self.kept)
        return self.house

    def __exit__(self, kind, value, trace):
        house = self.house
        house.state = self.kept.state
        house.view_room = self.kept.view_room
        self.kept = self.kept.before


def tried(house, *deeds):
    """Do some deeds for a trial, and return the tuple of what they return."""
    check_deeds(deeds)
    with Trial(house):
        return answers_to(house, deeds)
