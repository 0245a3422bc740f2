import fractions as plain
import math
import unittest

from fewturned.fractions import (ZERO, common_divisor, fraction, is_above_zero, is_at_most, is_fraction, is_whole,
                                 plus, times, together)
from samples import junk, kinds, spoiled

SOME = [(0, 1), (1, 1), (1, 2), (2, 1), (1, 3), (2, 3), (3, 4), (7, 6), (5, 12), (99, 1), (1, 99), (98, 99)]


def as_tuple(number):
    return (number.numerator, number.denominator)


def is_plain(thing):
    if type(thing) is not tuple or len(thing) != 2 or any(type(part) is not int for part in thing):
        return False
    return thing[0] >= 0 and thing[1] >= 1 and math.gcd(*thing) == 1


class Kinds(unittest.TestCase):
    def test_whole_numbers(self):
        for number in (-(10 ** 5000), -1, 0, 1, 2, 99, 10 ** 5000):
            self.assertIs(is_whole(number), True)
        for thing in junk():
            self.assertIs(is_whole(thing), type(thing) is int)

    def test_true_and_false_are_no_numbers(self):
        for thing in (True, False):
            self.assertIs(is_whole(thing), False)
        for thing in ((True, 1), (1, True), (False, 1), (True, 2), (True, True)):
            self.assertIs(is_fraction(thing), False)
            self.assertIs(is_above_zero(thing), False)

    def test_fractions(self):
        for thing in SOME:
            self.assertIs(is_fraction(thing), True)
            self.assertIs(is_above_zero(thing), thing != (0, 1))

    def test_all_small_pairs(self):
        for up in range(-4, 13):
            for down in range(-4, 13):
                self.assertIs(is_fraction((up, down)), is_plain((up, down)), (up, down))
                self.assertIs(is_above_zero((up, down)), is_plain((up, down)) and up > 0, (up, down))

    def test_zero_is_written_one_way(self):
        self.assertEqual(ZERO, (0, 1))
        for thing in ((0, 0), (0, 2), (0, -1), (0,), 0):
            self.assertIs(is_fraction(thing), False)

    def test_wrong_things(self):
        for thing in junk() + list(spoiled((2, 3))) + [[1, 2], (2, 4), (1, 0), (-1, 2), (1, -2), (-1, -2), (1, 2, 3)]:
            self.assertIs(is_fraction(thing), is_plain(thing))
            self.assertIs(is_above_zero(thing), is_plain(thing) and thing[0] > 0)


class Reckoning(unittest.TestCase):
    def test_common_divisor(self):
        for one in range(30):
            for other in range(1, 30):
                self.assertEqual(common_divisor(one, other), math.gcd(one, other))

    def test_without_a_common_divisor(self):
        for up in range(25):
            for down in range(1, 25):
                self.assertEqual(kinds(fraction(up, down)), kinds(as_tuple(plain.Fraction(up, down))))

    def test_plus_times_and_order(self):
        for one in SOME:
            for other in SOME:
                first, second = plain.Fraction(*one), plain.Fraction(*other)
                self.assertEqual(kinds(plus(one, other)), kinds(as_tuple(first + second)))
                self.assertEqual(kinds(times(one, other)), kinds(as_tuple(first * second)))
                self.assertIs(is_at_most(one, other), first <= second)

    def test_together(self):
        self.assertEqual(kinds(together([])), kinds((0, 1)))
        self.assertEqual(together([(1, 2), (1, 3), (1, 6)]), (1, 1))
        for end in range(len(SOME) + 1):
            given = SOME[:end]
            expected = sum((plain.Fraction(*one) for one in given), plain.Fraction(0))
            self.assertEqual(kinds(together(given)), kinds(as_tuple(expected)))
            self.assertEqual(given, SOME[:end])


if __name__ == "__main__":
    unittest.main()
