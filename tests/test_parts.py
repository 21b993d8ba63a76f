"""Parts: lowest terms, sums, differences, products, order, and the nearest whole number."""

import unittest
from fractions import Fraction
from math import gcd

from dotmoor.errors import BadPart, DotError
from dotmoor.parts import below, less, lowest, nearest, plus, times

SMALL = tuple(range(-12, 13))
LARGE = (999999999, 999999998, 987654321, 123456789, 100000000, 999999937)
NUMBERS = SMALL + LARGE + tuple(-number for number in LARGE)
OVERS = (-7, -2, -1, 0, 1, 3, 8, -987654321, 123456789, 999999937, 999999999, -999999999)
UNDERS = (1, 2, 3, 6, 8, 999999937, 999999999, 123456789)


def pair(fraction):
    return (fraction.numerator, fraction.denominator)


PARTS = sorted({pair(Fraction(over, under)) for over in OVERS for under in UNDERS})


class Tests(unittest.TestCase):
    def is_part(self, told):
        self.assertIs(type(told), tuple)
        self.assertEqual([type(number) for number in told], [int, int])
        self.assertGreaterEqual(told[1], 1)
        self.assertEqual(gcd(*told), 1)


class Lowest(Tests):
    def test_all_signs_and_sizes(self):
        for over in NUMBERS:
            for under in NUMBERS:
                if under != 0:
                    told = lowest(over, under)
                    self.is_part(told)
                    self.assertEqual(told, pair(Fraction(over, under)), (over, under))

    def test_written_out(self):
        self.assertEqual(lowest(6, 4), (3, 2))
        self.assertEqual(lowest(-6, 4), (-3, 2))
        self.assertEqual(lowest(6, -4), (-3, 2))
        self.assertEqual(lowest(-6, -4), (3, 2))
        self.assertEqual(lowest(3, 2), (3, 2))
        self.assertEqual(lowest(999999999, 333333333), (3, 1))
        self.assertEqual(lowest(333333333, -999999999), (-1, 3))

    def test_nought_over_something(self):
        for under in NUMBERS:
            if under != 0:
                self.assertEqual(lowest(0, under), (0, 1))

    def test_under_left_out(self):
        for over in NUMBERS:
            self.assertEqual(lowest(over), (over, 1))
            self.assertEqual(lowest(over=over), (over, 1))

    def test_nought_under_is_refused(self):
        for over in NUMBERS:
            with self.assertRaises(BadPart) as caught:
                lowest(over, 0)
            self.assertEqual(caught.exception.word, "BadPart")
            self.assertIsInstance(caught.exception, DotError)
        with self.assertRaises(BadPart):
            lowest(over=1, under=0)

    def test_by_names(self):
        self.assertEqual(lowest(over=10, under=-15), (-2, 3))
        self.assertEqual(lowest(under=-15, over=10), (-2, 3))
        self.assertEqual(lowest(10, under=-15), (-2, 3))


class Reckoning(Tests):
    def test_all_pairs(self):
        for one in PARTS:
            for other in PARTS:
                left, right = Fraction(*one), Fraction(*other)
                for told, due in (
                    (plus(one, other), left + right),
                    (less(one, other), left - right),
                    (times(one, other), left * right),
                ):
                    self.is_part(told)
                    self.assertEqual(told, pair(due), (one, other))

    def test_the_same_part_twice(self):
        for one in PARTS:
            self.assertEqual(plus(one, one), pair(2 * Fraction(*one)))
            self.assertEqual(less(one, one), (0, 1))
            self.assertEqual(times(one, one), (one[0] * one[0], one[1] * one[1]))

    def test_both_ways_about(self):
        for one in PARTS:
            for other in PARTS:
                self.assertEqual(plus(one, other), plus(other, one))
                self.assertEqual(times(one, other), times(other, one))
                self.assertEqual(less(one, other), times((-1, 1), less(other, one)))

    def test_written_out(self):
        self.assertEqual(plus((1, 6), (1, 3)), (1, 2))
        self.assertEqual(plus((1, 2), (-1, 2)), (0, 1))
        self.assertEqual(less((1, 6), (2, 3)), (-1, 2))
        self.assertEqual(times((-2, 3), (3, 4)), (-1, 2))
        self.assertEqual(times((0, 1), (-3, 4)), (0, 1))

    def test_by_names(self):
        one, other = (3, 4), (-1, 6)
        self.assertEqual(plus(other=other, one=one), (7, 12))
        self.assertEqual(less(other=other, one=one), (11, 12))
        self.assertEqual(times(other=other, one=one), (-1, 8))


class Below(Tests):
    def test_all_pairs(self):
        for one in PARTS:
            for other in PARTS:
                told = below(one, other)
                self.assertIs(type(told), bool)
                self.assertIs(told, Fraction(*one) < Fraction(*other), (one, other))

    def test_equal_parts(self):
        for one in PARTS:
            self.assertIs(below(one, one), False)

    def test_nine_figures_side_by_side(self):
        self.assertIs(below((999999998, 999999999), (999999997, 999999998)), False)
        self.assertIs(below((999999997, 999999998), (999999998, 999999999)), True)

    def test_by_names(self):
        self.assertIs(below(other=(1, 2), one=(1, 3)), True)
        self.assertIs(below(other=(1, 3), one=(1, 2)), False)


class Nearest(Tests):
    def test_whole_parts(self):
        for number in NUMBERS:
            told = nearest((number, 1))
            self.assertIs(type(told), int)
            self.assertEqual(told, number)

    def test_exact_halves_go_upward(self):
        for number in NUMBERS:
            self.assertEqual(nearest((2 * number + 1, 2)), number + 1)
        self.assertEqual(nearest((1, 2)), 1)
        self.assertEqual(nearest((-1, 2)), 0)
        self.assertEqual(nearest((-3, 2)), -1)
        self.assertEqual(nearest((999999999, 2)), 500000000)
        self.assertEqual(nearest((-999999999, 2)), -499999999)

    def test_a_little_below_and_above_halves(self):
        for number in SMALL:
            for small in (Fraction(1, 3), Fraction(1, 1000), Fraction(1, 99999999)):
                half = number + Fraction(1, 2)
                self.assertEqual(nearest(pair(half - small)), number)
                self.assertEqual(nearest(pair(half + small)), number + 1)

    def test_each_part_lies_in_the_stretch_told(self):
        for one in PARTS:
            told, half = nearest(one), Fraction(1, 2)
            self.assertTrue(told - half <= Fraction(*one) < told + half, one)

    def test_by_name(self):
        self.assertEqual(nearest(one=(7, 4)), 2)


if __name__ == "__main__":
    unittest.main()
