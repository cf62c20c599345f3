"""Point [4], and of point [24] the text of a number; the section "roompace/numbers.py"."""

import random
import unittest
from fractions import Fraction

from roompace import numbers
from roompace.errors import InvalidCount, InvalidNumber
from roompace.numbers import (
    add, compare, divide, floor_of, greatest_measure, is_factor, is_length, is_number, is_pace, least_multiple,
    multiply, number, number_text, subtract,
)
from tests.helpers import NO_NUMBERS, check_error

NUMBERS = [
    (0, 1), (1, 1), (-1, 1), (1, 2), (-1, 2), (2, 3), (-7, 3), (60, 59), (999999, 998), (-3, 2), (12, 1),
    (10 ** 399 + 1, 10 ** 399), (-(10 ** 300), 3 ** 500), (1, 10 ** 399), (10 ** 399, 1),
]


def pair(fraction):
    return (fraction.numerator, fraction.denominator)


class NumberTest(unittest.TestCase):
    def test_examples(self):
        self.assertEqual(number(4, -6), (-2, 3))
        self.assertEqual(divide((1, 2), (3, 1)), (1, 6))
        self.assertEqual(greatest_measure((2, 3), (1, 2)), (1, 6))

    def test_number_in_lowest_terms(self):
        self.assertEqual(number(0), (0, 1))
        self.assertEqual(number(0, -7), (0, 1))
        self.assertEqual(number(-5), (-5, 1))
        self.assertEqual(number(6, 4), (3, 2))
        self.assertEqual(number(-6, -4), (3, 2))
        self.assertEqual(number(above=6, below=-4), (-3, 2))
        self.assertEqual(number(6 * 10 ** 398, 4 * 10 ** 398), (3, 2))

    def test_number_by_comparison_with_fractions(self):
        for above in range(-12, 13):
            for below in list(range(-12, 0)) + list(range(1, 13)):
                self.assertEqual(number(above, below), pair(Fraction(above, below)))

    def test_number_of_no_integers(self):
        for above, below in [
            (1, 0), (0, 0), (True, 1), (1, True), (1, False), (None, 1), (1, None), ("1", 1), ((1, 1), 1), (1, [1]),
        ]:
            check_error(self, InvalidNumber, {"thing": (above, below)}, lambda: number(above, below))
        check_error(self, InvalidNumber, {"thing": (None, 1)}, lambda: number(None))
        check_error(self, InvalidNumber, {"thing": (True, 1)}, lambda: number(True))

    def test_results_are_plain(self):
        for value in (number(0, 5), number(3, -6), multiply((1, 2), (0, 1)), subtract((1, 2), (1, 2))):
            self.assertIs(value.__class__, tuple)
            self.assertTrue(is_number(value))


class KindTest(unittest.TestCase):
    def test_numbers(self):
        for value in NUMBERS:
            self.assertIs(is_number(value), True)
        for thing in NO_NUMBERS:
            self.assertIs(is_number(thing), False)
        self.assertIs(is_number(thing=(1, 2)), True)

    def check_kind(self, kind, good, bad):
        for thing in good:
            self.assertIs(kind(thing), True, thing)
            self.assertIs(kind(thing=thing), True)
        for thing in bad + NO_NUMBERS:
            self.assertIs(kind(thing), False, thing)

    def test_paces(self):
        good = [(0, 1), (1, 1), (60, 1), (1, 60), (60, 59), (59, 60), (7, 3)]
        bad = [(61, 1), (1, 61), (61, 60), (60, 61), (-1, 1), (-1, 2), (0, 2), (0, 60), (60, 60), (120, 2)]
        self.check_kind(is_pace, good, bad)

    def test_factors(self):
        good = [(1, 1), (60, 1), (1, 60), (60, 59), (59, 60), (7, 3)]
        bad = [(0, 1), (61, 1), (1, 61), (61, 60), (60, 61), (-1, 1), (-60, 1), (60, 60)]
        self.check_kind(is_factor, good, bad)

    def test_lengths(self):
        good = [(1, 1), (999999, 1), (1, 999), (999999, 998), (999998, 999), (500, 7)]
        bad = [(0, 1), (1000000, 1), (1, 1000), (1000000, 999), (999999, 1000), (-1, 1), (999, 999), (10 ** 399, 1)]
        self.check_kind(is_length, good, bad)
        # 999999 and 999 have a common divisor.
        self.assertIs(is_length((999999, 999)), False)


class ArithmeticTest(unittest.TestCase):
    def test_two_numbers(self):
        for first in NUMBERS:
            for second in NUMBERS:
                left, right = Fraction(*first), Fraction(*second)
                self.assertEqual(add(first, second), pair(left + right))
                self.assertEqual(subtract(first, second), pair(left - right))
                self.assertEqual(multiply(first, second), pair(left * right))
                self.assertEqual(compare(first, second), (left > right) - (left < right))
                if right != 0:
                    self.assertEqual(divide(first, second), pair(left / right))

    def test_many_small_numbers(self):
        chance = random.Random(4)
        for _ in range(300):
            left = Fraction(chance.randint(-30, 30), chance.randint(1, 30))
            right = Fraction(chance.randint(-30, 30), chance.randint(1, 30))
            self.assertEqual(add(pair(left), pair(right)), pair(left + right))
            self.assertEqual(multiply(pair(left), pair(right)), pair(left * right))
            self.assertEqual(floor_of(pair(left)), left.__floor__())

    def test_by_name(self):
        self.assertEqual(add(second=(1, 2), first=(1, 3)), (5, 6))
        self.assertEqual(subtract(second=(1, 2), first=(1, 3)), (-1, 6))
        self.assertEqual(multiply(second=(1, 2), first=(1, 3)), (1, 6))
        self.assertEqual(divide(second=(1, 2), first=(1, 3)), (2, 3))
        self.assertEqual(compare(second=(1, 2), first=(1, 3)), -1)
        self.assertEqual(floor_of(value=(-1, 3)), -1)
        self.assertEqual(number_text(value=(-1, 3)), "-1/3")

    def test_no_numbers(self):
        for act in (add, subtract, multiply, divide, compare):
            for thing in NO_NUMBERS:
                check_error(self, InvalidNumber, {"thing": thing}, lambda: act(thing, (1, 2)))
                check_error(self, InvalidNumber, {"thing": thing}, lambda: act((1, 2), thing))
                check_error(self, InvalidNumber, {"thing": thing}, lambda: act(thing, (5, 0)))

    def test_divided_by_zero(self):
        for first in NUMBERS:
            check_error(self, InvalidNumber, {"thing": (0, 1)}, lambda: divide(first, (0, 1)))
        check_error(self, InvalidNumber, {"thing": (2, 2)}, lambda: divide((2, 2), (0, 1)))

    def test_floor_of(self):
        for value, floor in [
            ((0, 1), 0), ((7, 2), 3), ((-7, 2), -4), ((-4, 1), -4), ((4, 1), 4), ((1, 3), 0), ((-1, 3), -1),
            ((10 ** 399 + 1, 10), 10 ** 398), ((-(10 ** 399) - 1, 10), -(10 ** 398) - 1),
        ]:
            self.assertEqual(floor_of(value), floor)
        for thing in NO_NUMBERS:
            check_error(self, InvalidNumber, {"thing": thing}, lambda: floor_of(thing))


class MultipleTest(unittest.TestCase):
    def test_one_number(self):
        for value in NUMBERS:
            if value[0] > 0:
                self.assertEqual(greatest_measure(value), value)
                self.assertEqual(least_multiple(value), value)

    def test_several_numbers(self):
        self.assertEqual(least_multiple((2, 3), (1, 2)), (2, 1))
        self.assertEqual(greatest_measure((6, 1), (4, 1), (10, 1)), (2, 1))
        self.assertEqual(least_multiple((6, 1), (4, 1), (10, 1)), (60, 1))
        self.assertEqual(greatest_measure((3, 4), (9, 10), (3, 4)), (3, 20))
        self.assertEqual(least_multiple((3, 4), (9, 10), (3, 4)), (9, 2))
        self.assertEqual(greatest_measure((10 ** 399, 1), (1, 10 ** 399)), (1, 10 ** 399))
        self.assertEqual(least_multiple((10 ** 399, 1), (1, 10 ** 399)), (10 ** 399, 1))

    def test_what_they_promise(self):
        chance = random.Random(5)
        for _ in range(200):
            values = [number(chance.randint(1, 12), chance.randint(1, 12)) for _ in range(chance.randint(1, 4))]
            measure, multiple = greatest_measure(*values), least_multiple(*values)
            self.assertTrue(is_number(measure))
            self.assertTrue(is_number(multiple))
            counts = [divide(value, measure) for value in values]
            self.assertEqual({below for _, below in counts}, {1})
            self.assertEqual(greatest_measure(*counts), (1, 1))
            counts = [divide(multiple, value) for value in values]
            self.assertEqual({below for _, below in counts}, {1})
            self.assertEqual(greatest_measure(*counts), (1, 1))

    def test_errors(self):
        for act in (greatest_measure, least_multiple):
            check_error(self, InvalidCount, {"count": 0}, act)
            for thing in NO_NUMBERS + [(0, 1), (-1, 2), (-(10 ** 300), 1)]:
                check_error(self, InvalidNumber, {"thing": thing}, lambda: act(thing))
                check_error(self, InvalidNumber, {"thing": thing}, lambda: act((1, 2), thing, (0, 1), None))


class TextTest(unittest.TestCase):
    def test_texts(self):
        for value, text in [
            ((0, 1), "0"), ((7, 1), "7"), ((-7, 1), "-7"), ((-3, 2), "-3/2"), ((1, 60), "1/60"),
            ((10 ** 400 - 1, 1), "9" * 400), ((1, 10 ** 399), "1/1" + "0" * 399),
        ]:
            self.assertEqual(number_text(value), text)

    def test_no_numbers(self):
        for thing in NO_NUMBERS:
            check_error(self, InvalidNumber, {"thing": thing}, lambda: number_text(thing))


class InterfaceTest(unittest.TestCase):
    def test_defined_in_this_file(self):
        for name in (
            "number", "is_number", "is_pace", "is_factor", "is_length", "add", "subtract", "multiply", "divide",
            "compare", "floor_of", "greatest_measure", "least_multiple", "number_text",
        ):
            self.assertEqual(getattr(numbers, name).__module__, "roompace.numbers")


if __name__ == "__main__":
    unittest.main()
