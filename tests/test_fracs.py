import math
import random
import unittest
from fractions import Fraction

from lotdraw.errors import NoNumber
from lotdraw.fracs import frac, greatest_divisor, minus, over, plus, power, times, under

SMALL = [frac(top, bottom) for top in range(-6, 7) for bottom in range(1, 7)]


def as_told(number):
    return (number.numerator, number.denominator)


def long_number(source, figures):
    return source.choice((-1, 1)) * source.randrange(10 ** (figures - 1), 10 ** figures)


def long_fraction(source, figures=300):
    return frac(long_number(source, figures), long_number(source, figures))


class FractionCase(unittest.TestCase):
    def check(self, told, awaited):
        self.assertIs(type(told), tuple)
        self.assertEqual([type(part) for part in told], [int, int])
        self.assertTrue(told == as_told(Fraction(awaited)), "not the fraction awaited")


class Frac(FractionCase):
    def test_all_small_pairs_of_either_sign(self):
        for top in range(-40, 41):
            for bottom in range(-40, 41):
                if bottom != 0:
                    self.check(frac(top, bottom), Fraction(top, bottom))

    def test_written_out(self):
        self.assertEqual(frac(6, 4), (3, 2))
        self.assertEqual(frac(-6, 4), (-3, 2))
        self.assertEqual(frac(6, -4), (-3, 2))
        self.assertEqual(frac(-6, -4), (3, 2))
        self.assertEqual(frac(7, 7), (1, 1))
        self.assertEqual(frac(5, -5), (-1, 1))

    def test_top_nought(self):
        for bottom in (1, -1, 7, -12, 10 ** 300 - 1, -(10 ** 299)):
            self.assertEqual(frac(0, bottom), (0, 1))

    def test_bottom_nought_is_refused(self):
        for top in (0, 1, -1, 12, 10 ** 300 - 1):
            with self.assertRaises(NoNumber):
                frac(top, 0)

    def test_numbers_of_three_hundred_figures(self):
        source = random.Random(4)
        for turn in range(60):
            top = long_number(source, 300)
            bottom = long_number(source, 300)
            self.check(frac(top, bottom), Fraction(top, bottom))

    def test_a_long_divisor_is_divided_out(self):
        source = random.Random(5)
        for turn in range(60):
            shared = long_number(source, 200)
            top = shared * long_number(source, 100)
            bottom = shared * long_number(source, 100)
            self.check(frac(top, bottom), Fraction(top, bottom))
        self.assertEqual(frac(10 ** 300 - 1, 10 ** 300 - 1), (1, 1))
        self.assertEqual(frac(10 ** 299, -(10 ** 298)), (-10, 1))


class Deeds(FractionCase):
    def check_pair(self, one, other):
        left = Fraction(*one)
        right = Fraction(*other)
        self.check(plus(one, other), left + right)
        self.check(minus(one, other), left - right)
        self.check(times(one, other), left * right)
        self.assertIs(under(one, other), left < right)
        if right != 0:
            self.check(over(one, other), left / right)

    def test_written_out(self):
        self.assertEqual(plus((1, 6), (1, 3)), (1, 2))
        self.assertEqual(minus((1, 6), (2, 3)), (-1, 2))
        self.assertEqual(times((2, 3), (-3, 4)), (-1, 2))
        self.assertEqual(over((1, 2), (-3, 4)), (-2, 3))

    def test_all_small_pairs(self):
        for one in SMALL:
            for other in SMALL:
                self.check_pair(one, other)

    def test_three_hundred_figures(self):
        source = random.Random(6)
        for turn in range(30):
            self.check_pair(long_fraction(source), long_fraction(source))

    def test_long_ones_that_lie_side_by_side(self):
        bottom = 10 ** 299 + 1
        for top in (10 ** 299, -(10 ** 299)):
            self.check_pair(frac(top, bottom), frac(top + 1, bottom))
            self.check_pair(frac(top, bottom), frac(top, bottom + 2))
            self.check_pair(frac(top + 1, bottom), frac(top, bottom))

    def test_what_falls_away_leaves_nought(self):
        for one in SMALL + [long_fraction(random.Random(7))]:
            self.assertEqual(minus(one, one), (0, 1))
            self.assertEqual(times(one, (0, 1)), (0, 1))
            self.assertEqual(times((0, 1), one), (0, 1))

    def test_what_was_told_is_taken_again(self):
        source = random.Random(8)
        total = (0, 1)
        awaited = Fraction(0)
        for turn in range(12):
            fraction = long_fraction(source)
            total = over(plus(times(total, fraction), fraction), (3, 7))
            awaited = (awaited * Fraction(*fraction) + Fraction(*fraction)) / Fraction(3, 7)
            self.check(total, awaited)

    def test_over_nought_is_refused(self):
        for one in ((0, 1), (1, 1), (-3, 7), (10 ** 299, 3)):
            with self.assertRaises(NoNumber):
                over(one, (0, 1))

    def test_nought_over_any_other_is_nought(self):
        for other in ((1, 1), (-3, 7), (10 ** 299, 3)):
            self.assertEqual(over((0, 1), other), (0, 1))


class Under(unittest.TestCase):
    def test_less_equal_greater(self):
        self.assertIs(under((1, 3), (1, 2)), True)
        self.assertIs(under((1, 2), (1, 2)), False)
        self.assertIs(under((1, 2), (1, 3)), False)

    def test_below_nought(self):
        self.assertIs(under((-1, 2), (-1, 3)), True)
        self.assertIs(under((-1, 3), (-1, 2)), False)
        self.assertIs(under((-1, 3), (-1, 3)), False)
        self.assertIs(under((-1, 3), (0, 1)), True)
        self.assertIs(under((0, 1), (-1, 3)), False)
        self.assertIs(under((0, 1), (0, 1)), False)


class Power(FractionCase):
    def test_nought_times(self):
        for one in SMALL + [(0, 1), long_fraction(random.Random(9))]:
            self.assertEqual(power(one, 0), (1, 1))

    def test_of_nought(self):
        for many in range(1, 61):
            self.assertEqual(power((0, 1), many), (0, 1))

    def test_up_to_sixty(self):
        for one in ((1, 1), (-1, 1), (2, 3), (-2, 3), (5, 1), (-7, 4)):
            for many in range(61):
                self.check(power(one, many), Fraction(*one) ** many)

    def test_long_ones_up_to_sixty(self):
        source = random.Random(10)
        for many in (1, 2, 3, 31, 59, 60):
            one = long_fraction(source)
            self.check(power(one, many), Fraction(*one) ** many)


class GreatestDivisor(unittest.TestCase):
    # Sums of long fractions have far longer numbers than three hundred figures, and
    # these take another way down than short ones.
    def check(self, one, other):
        self.assertTrue(greatest_divisor(one, other) == math.gcd(one, other), "not the greatest divisor")

    def test_lengths_from_short_to_very_long(self):
        source = random.Random(11)
        for bits in (1, 5, 60, 240, 1000, 3999, 4000, 4001, 4300, 9000, 30000):
            for turn in range(6):
                shared = source.getrandbits(bits) + 1
                one = source.getrandbits(bits) + 1
                other = source.getrandbits(source.randrange(1, bits + 1)) + 1
                for pair in ((one, other), (other, one), (shared * one, shared * other), (-shared * other, one)):
                    self.check(*pair)

    def test_long_numbers_alike(self):
        long = 3 ** 6000
        for pair in ((long, long), (long, long + 1), (long * 6, long * 4), (long, 0), (0, long), (-long, long - 2)):
            self.check(*pair)

    def test_the_slowest_way_down(self):
        one = 1
        other = 1
        for turn in range(20000):
            one, other = one + other, one
        self.check(one, other)
        self.check(one * 15, other * 21)


if __name__ == "__main__":
    unittest.main()
