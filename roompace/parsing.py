"""Numbers and houses from their texts."""

from roompace.errors import InvalidNumber, InvalidText
from roompace.house import House
from roompace.reading import number_in


def parse_number(text):
    """Return the number that has this text."""
    if not isinstance(text, str):
        raise InvalidText(0)
    try:
        return number_in(text)
    except InvalidNumber:
        raise InvalidText(0) from None


def parse_house(text):
    """Return the house that has this text."""
    return House.read(text)
