"""The text of a house."""

from roompace.lines import state_text


def house_text(house):
    """Return the text of a house, which House.read and parse_house read."""
    return state_text(house.state)
