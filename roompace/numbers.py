"""Exact fractions as pairs (above, below) in lowest terms."""

from math import gcd, lcm

from roompace.errors import InvalidCount, InvalidNumber


def number(above, below=1):
    """Return the number above / below."""
    if not is_integer(above) or not is_integer(below) or below == 0:
        raise InvalidNumber((above, below))
    shared = gcd(above, below)
    if below < 0:
        shared = -shared
    return (above // shared, below // shared)


def is_integer(thing):
    return isinstance(thing, int) and not isinstance(thing, bool)


def is_number(thing):
    """Tell whether an object is a pair in lowest terms."""
    if not isinstance(thing, tuple) or len(thing) != 2:
        return False
    above, below = thing
    if not is_integer(above) or not is_integer(below):
        return False
    return below >= 1 and gcd(above, below) == 1


def is_positive(thing):
    return is_number(thing) and thing[0] >= 1


def is_pace(thing):
    """Tell whether an object is 0 or a number with parts from 1 to 60."""
    return is_factor(thing) or (is_number(thing) and thing[0] == 0)


def is_factor(thing):
    """Tell whether an object is a number with parts from 1 to 60."""
    return is_positive(thing) and thing[0] <= 60 and thing[1] <= 60


def is_length(thing):
    """Tell whether an object is a number from 1 to 999999 above, from 1 to 999 below."""
    return is_positive(thing) and thing[0] <= 999999 and thing[1] <= 999


def check_number(thing):
    if not is_number(thing):
        raise InvalidNumber(thing)


def add(first, second):
    """Return the sum of two numbers."""
    check_number(first)
    check_number(second)
    return number(first[0] * second[1] + second[0] * first[1], first[1] * second[1])


def subtract(first, second):
    """Return the first number less the second one."""
    check_number(first)
    check_number(second)
    return number(first[0] * second[1] - second[0] * first[1], first[1] * second[1])


def multiply(first, second):
    """Return the product of two numbers."""
    check_number(first)
    check_number(second)
    return number(first[0] * second[0], first[1] * second[1])


def divide(first, second):
    """Return the first number divided by the second one, which is not 0."""
    check_number(first)
    check_number(second)
    if second[0] == 0:
        raise InvalidNumber(second)
    return number(first[0] * second[1], first[1] * second[0])


def compare(first, second):
    """Return -1, 0 or 1 if the first number is less, equal or greater."""
    check_number(first)
    check_number(second)
    left = first[0] * second[1]
    right = second[0] * first[1]
    if left < right:
        return -1
    return 1 if left > right else 0


def floor_of(value):
    """Return the greatest integer that is not greater than a number."""
    check_number(value)
    return value[0] // value[1]


def greatest_measure(*numbers):
    """Return the greatest number of which all given numbers are integer multiples."""
    check_positive_numbers(numbers)
    above, below = numbers[0]
    for value in numbers:
        above = gcd(above, value[0])
        below = lcm(below, value[1])
    # Each number is in lowest terms, so no prime can divide both results.
    return (above, below)


def least_multiple(*numbers):
    """Return the least positive number that is an integer multiple of all given numbers."""
    check_positive_numbers(numbers)
    above, below = numbers[0]
    for value in numbers:
        above = lcm(above, value[0])
        below = gcd(below, value[1])
    # In lowest terms for the same reason as in greatest_measure.
    return (above, below)


def check_positive_numbers(numbers):
    if len(numbers) == 0:
        raise InvalidCount(0)
    for thing in numbers:
        if not is_positive(thing):
            raise InvalidNumber(thing)


def number_text(value):
    """Return a number in decimal digits, with a slash if it is no integer."""
    check_number(value)
    if value[1] == 1:
        return str(value[0])
    return f"{value[0]}/{value[1]}"
