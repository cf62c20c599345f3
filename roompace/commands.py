"""The forms of the commands that a desk takes."""

from roompace.errors import InvalidText
from roompace.parsing import parse_number
from roompace.strokes import LAST_NUMBER

# What follows the first word of a command: w is any word, n is a number, c is a count.
FORMS = {
    "build": ("wwnn",), "pace": ("wn",), "carry": ("ww",), "come": ("wwn",), "walk": ("ww",), "hang": ("wwn",),
    "alarm": ("wwn",), "cancel": ("w",), "view": ("w",), "wait": ("n", "nw"), "coming": ("n",), "show": ("w",),
    "now": ("",), "convert": ("nww",), "forecast": ("nww",), "equal": ("ww",), "stroke": ("c",), "together": ("",),
    "oldest": ("wwwn",), "youngest": ("wwwn",), "seen": ("w",), "text": ("",),
}


def command_in(thing):
    """Return the list of the first word of a command and the values behind it, None if it is no command."""
    words = words_in(thing)
    if words is None:
        return None
    for form in FORMS.get(words[0], ()):
        if len(form) == len(words) - 1:
            values = [value_in(kind, word) for kind, word in zip(form, words[1:])]
            return None if None in values else [words[0], *values]
    return None


def words_in(thing):
    """Return the words of a string, None if they are not separated by exactly one space."""
    if not isinstance(thing, str) or "\n" in thing:
        return None
    words = thing.split(" ")
    return None if "" in words else words


def value_in(kind, word):
    """Return the value of a word, None if it is not of its kind."""
    if kind == "w":
        return word
    value = number_or_none(word)
    if kind == "n" or value is None:
        return value
    return value[0] if value[1] == 1 and value[0] <= LAST_NUMBER else None


def number_or_none(word):
    """Return the number that has this text, None if there is none or if it is negative."""
    try:
        value = parse_number(word)
    except InvalidText:
        return None
    return None if value[0] < 0 else value
