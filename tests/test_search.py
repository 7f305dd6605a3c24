import math
import random
import unittest
from fractions import Fraction

from lotdraw.errors import NoShares, TooLong
from lotdraw.fracs import frac, minus, under
from lotdraw.polys import worth
from lotdraw.rules import refusing
from lotdraw.search import least_plan
from lotdraw.words import so_many

LONG = 10 ** 300 - 1
NO_PAIRS = (
    ((0, 1), (1, 2)), ((1, 2), (1, 1)), ((0, 1), (1, 1)), ((1, 2), (1, 2)), ((1, 2), (1, 3)), ((-1, 2), (1, 2)),
    ((1, 2), (3, 2)), ((-2, 3), (-1, 3)), ((4, 3), (5, 3)), ((1, 1), (0, 1)), ((1, 2), (LONG, 1)),
)
NO_MOSTS = ((-1, 1), (-1, 2), (2, 1), (3, 2), (LONG, LONG - 1), (-1, LONG), (LONG, 1))
NO_BOUNDS = (0, -1, 25, 26, LONG, -LONG)


def at_most(draws, bad, share):
    """The odds of at most so many bad among so many draws."""
    share = Fraction(*share)
    return sum(math.comb(draws, found) * share ** found * (1 - share) ** (draws - found) for found in range(bad + 1))


def plain_search(low, low_most, high, high_most, bound):
    for draws in range(1, bound + 1):
        for bad in range(draws + 1):
            wrong = 1 - at_most(draws, bad, low)
            missed = at_most(draws, bad, high)
            if wrong <= Fraction(*low_most) and missed <= Fraction(*high_most):
                return (draws, bad)
    return None


def told(fraction):
    return (fraction.numerator, fraction.denominator)


class LeastPlan(unittest.TestCase):
    def check(self, low, low_most, high, high_most, bound):
        answer = least_plan(low, low_most, high, high_most, bound)
        self.assertEqual(answer, plain_search(low, low_most, high, high_most, bound))
        if answer is not None:
            self.assertIs(type(answer), tuple)
            self.assertEqual([type(part) for part in answer], [int, int])
        return answer

    def test_written_out(self):
        self.assertEqual(least_plan((1, 10), (1, 10), (1, 2), (1, 10), 24), (9, 2))
        self.assertEqual(least_plan((1, 4), (1, 4), (3, 4), (1, 4), 24), (1, 0))
        self.assertEqual(least_plan((1, 4), (1, 5), (3, 4), (1, 5), 24), (3, 1))
        self.assertIsNone(least_plan((1, 4), (1, 5), (3, 4), (1, 5), 2))
        self.assertIsNone(least_plan((1, 10), (1, 20), (1, 9), (1, 20), 24))

    def test_shares_and_mosts_of_all_kinds(self):
        parts = (Fraction(1, 20), Fraction(1, 7), Fraction(2, 5), Fraction(3, 4), Fraction(19, 20))
        mosts = (Fraction(0), Fraction(1, 100), Fraction(1, 8), Fraction(1, 2), Fraction(1))
        for low in parts:
            for high in parts:
                if low < high:
                    for low_most in mosts:
                        for high_most in mosts:
                            self.check(told(low), told(low_most), told(high), told(high_most), 12)

    def test_long_bounds(self):
        for low, high in (((1, 20), (1, 4)), ((1, 10), (3, 10)), ((1, 5), (1, 2)), ((2, 5), (3, 5))):
            for most in ((1, 50), (1, 10), (1, 5), (1, 3)):
                for bound in (1, 2, 15, 23, 24):
                    self.check(low, most, high, (1, 10), bound)
                    self.check(low, (1, 10), high, most, bound)

    def test_the_bound_is_kept_just_so(self):
        draws, bad = least_plan((1, 10), (1, 10), (2, 5), (1, 10), 24)
        self.assertEqual(least_plan((1, 10), (1, 10), (2, 5), (1, 10), draws), (draws, bad))
        self.assertIsNone(least_plan((1, 10), (1, 10), (2, 5), (1, 10), draws - 1))
        self.assertEqual(least_plan((1, 4), (1, 4), (3, 4), (1, 4), 1), (1, 0))
        self.assertIsNone(least_plan((1, 4), (1, 5), (3, 4), (1, 5), 1))

    def test_a_plan_of_24_draws(self):
        low_most = told(1 - at_most(24, 5, (1, 10)))
        high_most = told(at_most(24, 5, (2, 5)))
        self.assertEqual(least_plan((1, 10), low_most, (2, 5), high_most, 24), (24, 5))
        self.assertIsNone(least_plan((1, 10), low_most, (2, 5), high_most, 23))

    def test_mosts_that_are_kept_just_so(self):
        for draws, bad in ((1, 0), (5, 1), (9, 3), (17, 4)):
            low_most = 1 - at_most(draws, bad, (1, 8))
            high_most = at_most(draws, bad, (3, 8))
            self.assertEqual(self.check((1, 8), told(low_most), (3, 8), told(high_most), 24), (draws, bad))
            little = Fraction(1, 10 ** 15)
            self.assertNotEqual(
                self.check((1, 8), told(low_most - little), (3, 8), told(high_most), 24), (draws, bad))
            self.assertNotEqual(
                self.check((1, 8), told(low_most), (3, 8), told(high_most - little), 24), (draws, bad))

    def test_mosts_of_nought_and_of_one(self):
        for low, high in (((1, 10), (1, 5)), ((1, 3), (2, 3))):
            for bound in (1, 2, 24):
                self.assertEqual(least_plan(low, (1, 1), high, (1, 1), bound), (1, 0))
                self.assertEqual(least_plan(low, (0, 1), high, (1, 1), bound), (1, 1))
                self.assertIsNone(least_plan(low, (1, 1), high, (0, 1), bound))
                self.assertIsNone(least_plan(low, (0, 1), high, (0, 1), bound))

    def test_both_risks_are_kept_by_the_programs_own_odds(self):
        for low, high, most in (((1, 20), (1, 3), (1, 10)), ((1, 10), (2, 5), (1, 8)), ((1, 4), (3, 4), (1, 30))):
            draws, bad = least_plan(low, most, high, most, 24)
            polynomial = refusing(so_many(draws), [(found, draws - found) for found in range(bad + 1, draws + 1)])
            self.assertFalse(under(most, worth(polynomial, low)))
            self.assertFalse(under(most, minus((1, 1), worth(polynomial, high))))

    def test_numbers_of_three_hundred_figures(self):
        source = random.Random(51)
        for turn in range(3):
            low = frac(source.randint(LONG // 50, LONG // 10), LONG)
            high = frac(source.randint(LONG // 3, LONG // 2), LONG - 1)
            most = frac(source.randint(LONG // 20, LONG // 5), LONG - 2)
            self.check(low, most, high, most, 24)

    def test_shares_and_mosts_that_are_none(self):
        for bound in (1, 24) + NO_BOUNDS:
            for low, high in NO_PAIRS:
                for most in ((0, 1), (1, 2), (1, 1), (-1, 2)):
                    with self.assertRaises(NoShares):
                        least_plan(low, most, high, (1, 2), bound)
                    with self.assertRaises(NoShares):
                        least_plan(low, (1, 2), high, most, bound)
            for most in NO_MOSTS:
                with self.assertRaises(NoShares):
                    least_plan((1, 3), most, (2, 3), (1, 2), bound)
                with self.assertRaises(NoShares):
                    least_plan((1, 3), (1, 2), (2, 3), most, bound)

    def test_bounds_that_are_none(self):
        for bound in NO_BOUNDS:
            for most in ((0, 1), (1, 2), (1, 1)):
                with self.assertRaises(TooLong):
                    least_plan((1, 3), most, (2, 3), (1, 1), bound)


if __name__ == "__main__":
    unittest.main()
