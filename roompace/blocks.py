"""What views and trials share: what a block gives back at its end, and the deeds in a block."""

from roompace.deeds import is_deed
from roompace.errors import InvalidDeed


class Kept:
    """A house as it is at the beginning of a block.

    `before` is what the block around it keeps, if one context manager is used for both.
    """

    def __init__(self, house, before):
        self.state = house.state
        self.view_room = house.view_room
        self.before = before


def check_deeds(deeds):
    for index, deed in enumerate(deeds):
        if not is_deed(deed):
            raise InvalidDeed(index)


def answers_to(house, deeds):
    """Do some deeds, and return the tuple of what they return."""
    answers = []
    for deed in deeds:
        answers.append(house.do(deed))
    return tuple(answers)
