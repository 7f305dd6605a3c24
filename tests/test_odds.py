import copy
import random
import unittest
from fractions import Fraction

from lotdraw.errors import NoEnd, NoTelling
from lotdraw.fracs import frac
from lotdraw.odds import mean_bad, mean_draws, mean_of, odds
from lotdraw.polys import product, scaled, sum_of, worth
from some_plans import (
    ALL_OF_24, BAD_OF_24, GAPS_OF_24, GOOD_OF_24, ONE_PLACE, PLANS, SMALL, WITH_GAPS,
    as_told, plain_come_to, plain_ends, plain_on, plain_rows, plain_ways, powers_of,
)

LONG = 10 ** 300 - 1
X = [(0, 1), (1, 1)]
ONE = [(1, 1)]


def plain_mean(plan, numbers):
    ways = plain_ways(plan)
    totals = [Fraction(0)] * (len(plan) + 1)
    for end, number in zip(plain_ends(plan), numbers):
        for place, many in enumerate(powers_of(*end)):
            totals[place] += Fraction(*number) * many * ways[end]
    return as_told(totals)


class PolyCase(unittest.TestCase):
    def check(self, told, awaited):
        self.assertIs(type(told), list)
        for fraction in told:
            self.assertIs(type(fraction), tuple)
            self.assertEqual([type(part) for part in fraction], [int, int])
        self.assertTrue(told == awaited, "not the polynomial awaited")


class Odds(PolyCase):
    def test_written_out(self):
        plan = ((0,), (0, 1), (1,))
        self.check(odds(plan, (0, 2)), [(1, 1), (-2, 1), (1, 1)])
        self.check(odds(plan, (2, 0)), [(0, 1), (0, 1), (1, 1)])
        self.check(odds(plan, (1, 2)), [(0, 1), (2, 1), (-4, 1), (2, 1)])
        self.check(odds(plan, (2, 1)), [(0, 1), (0, 1), (2, 1), (-2, 1)])
        self.check(odds(ONE_PLACE, (0, 1)), [(1, 1), (-1, 1)])
        self.check(odds(ONE_PLACE, (1, 0)), X)

    def test_each_end(self):
        for plan in SMALL + PLANS:
            ways = plain_ways(plan)
            for end in plain_ends(plan):
                self.check(odds(plan, end), as_told([ways[end] * many for many in powers_of(*end)]))

    def test_by_all_rows(self):
        for plan in SMALL[:40] + [WITH_GAPS, ALL_OF_24[:8]]:
            on = plain_on(plan)
            for share in ((1, 3), (3, 4)):
                awaited = {}
                for row, count in plain_rows(plan):
                    if count not in on:
                        often = Fraction(*share) ** count[0] * (1 - Fraction(*share)) ** count[1]
                        awaited[count] = awaited.get(count, 0) + often
                told = {end: Fraction(*worth(odds(plan, end), share)) for end in plain_ends(plan)}
                self.assertEqual(told, awaited)

    def test_all_together_come_to_one(self):
        for plan in SMALL + PLANS:
            total = []
            for end in plain_ends(plan):
                total = sum_of(total, odds(plan, end))
            self.check(total, ONE)

    def test_counts_that_are_no_ends(self):
        far = [(0, 25), (25, 0), (13, 12), (LONG, 0), (0, LONG), (LONG, LONG)]
        for plan in SMALL[:30] + PLANS:
            there = set(plain_ends(plan))
            counts = [(bad, draws - bad) for draws in range(len(plan) + 2) for bad in range(draws + 1)]
            for count in counts + far:
                if count not in there:
                    with self.assertRaises(NoEnd):
                        odds(plan, count)

    def test_no_ends_written_out(self):
        plan = ((0,), (1,))
        for count in ((0, 0), (1, 0), (0, 2), (3, 0), (2, 1)):
            with self.assertRaises(NoEnd):
                odds(plan, count)

    def test_told_polynomials_are_the_askers_own(self):
        told = odds(ONE_PLACE, (0, 1))
        told[0] = (5, 1)
        told.append((7, 1))
        self.assertEqual(odds(ONE_PLACE, (0, 1)), [(1, 1), (-1, 1)])


class MeanOf(PolyCase):
    def numbers_for(self, plan, source, most):
        return [frac(source.randint(-most, most), source.randint(1, most)) for end in plain_ends(plan)]

    def test_written_out(self):
        plan = ((0,), (0, 1), (1,))
        self.check(mean_of(plan, [(1, 2), (0, 1), (0, 1), (0, 1)]), [(1, 2), (-1, 1), (1, 2)])
        self.check(mean_of(plan, [(0, 1), (0, 1), (1, 3), (1, 3)]), [(0, 1), (2, 3), (-2, 3)])
        self.check(mean_of(ONE_PLACE, [(0, 1), (1, 1)]), X)

    def test_numbers_by_chance(self):
        source = random.Random(81)
        for plan in SMALL + PLANS:
            for most in (2, 40):
                numbers = self.numbers_for(plan, source, most)
                self.check(mean_of(plan, numbers), plain_mean(plan, numbers))

    def test_it_is_the_sum_of_number_times_odds(self):
        source = random.Random(82)
        for plan in SMALL[:40] + PLANS[:12]:
            numbers = self.numbers_for(plan, source, 9)
            total = []
            for end, number in zip(plain_ends(plan), numbers):
                total = sum_of(total, scaled(odds(plan, end), number))
            self.check(mean_of(plan, numbers), total)

    def test_numbers_go_with_the_ends_in_their_order(self):
        for plan in SMALL[:60] + [WITH_GAPS, GAPS_OF_24, BAD_OF_24]:
            there = plain_ends(plan)
            for at, end in enumerate(there):
                numbers = [(0, 1)] * len(there)
                numbers[at] = (1, 1)
                self.check(mean_of(plan, numbers), odds(plan, end))

    def test_numbers_of_three_hundred_figures(self):
        source = random.Random(83)
        for plan in (ONE_PLACE, WITH_GAPS, GOOD_OF_24, GAPS_OF_24):
            numbers = self.numbers_for(plan, source, LONG)
            self.check(mean_of(plan, numbers), plain_mean(plan, numbers))
        many = len(plain_ends(ALL_OF_24))
        self.check(mean_of(ALL_OF_24, [(LONG, 1)] * many), [(LONG, 1)])

    def test_one_told_at_each_end(self):
        for plan in SMALL + PLANS:
            many = len(plain_ends(plan))
            self.check(mean_of(plan, [(1, 1)] * many), ONE)
            self.check(mean_of(plan, [(-3, 7)] * many), [(-3, 7)])
            self.check(mean_of(plan, [(0, 1)] * many), [])

    def test_highest_powers_that_fall_away(self):
        for plan in (ALL_OF_24, ALL_OF_24[:5]):
            draws = len(plan)
            numbers = [(bad, draws) for bad in range(draws + 1)]
            self.check(mean_of(plan, [frac(*number) for number in numbers]), X)
        self.check(mean_of(((0,), (0, 1), (0, 2)), [(1, 1), (0, 1), (-2, 1), (-2, 1), (0, 1)]), [])

    def test_lists_of_another_length(self):
        for plan in SMALL[:30] + PLANS:
            many = len(plain_ends(plan))
            for length in (0, 1, many - 1, many + 1, 2 * many):
                if length != many:
                    numbers = [(1, 2)] * length
                    with self.assertRaises(NoTelling):
                        mean_of(plan, numbers)
                    self.assertEqual(numbers, [(1, 2)] * length)

    def test_the_list_handed_in_stays(self):
        source = random.Random(84)
        for plan in (ONE_PLACE, WITH_GAPS, ALL_OF_24):
            numbers = self.numbers_for(plan, source, 20)
            kept = copy.deepcopy(numbers)
            told = mean_of(plan, numbers)
            self.assertEqual(numbers, kept)
            again = list(told)
            told.append((3, 1))
            numbers[0] = (99, 1)
            self.assertEqual(mean_of(plan, kept), again)

    def test_a_told_mean_stays(self):
        numbers = [(0, 1), (1, 1)]
        told = mean_of(ONE_PLACE, numbers)
        numbers[0] = (1, 1)
        mean_of(ONE_PLACE, numbers)
        self.assertEqual(told, X)


class Means(PolyCase):
    def test_written_out(self):
        self.check(mean_draws(ONE_PLACE), ONE)
        self.check(mean_bad(ONE_PLACE), X)
        self.check(mean_draws(((0,), (1,))), [(1, 1), (1, 1)])
        self.check(mean_bad(((0,), (1,))), [(0, 1), (1, 1), (1, 1)])
        self.check(mean_draws(((0,), (0, 1), (1,))), [(2, 1), (2, 1), (-2, 1)])
        self.check(mean_draws(ALL_OF_24), [(24, 1)])
        self.check(mean_bad(ALL_OF_24), [(0, 1), (24, 1)])
        self.check(mean_draws(BAD_OF_24), [(1, 1)] * 24)

    def test_sums_over_the_ends(self):
        for plan in SMALL + PLANS:
            there = plain_ends(plan)
            self.check(mean_draws(plan), plain_mean(plan, [(bad + good, 1) for bad, good in there]))
            self.check(mean_bad(plan), plain_mean(plan, [(bad, 1) for bad, good in there]))

    def test_bad_is_the_share_times_draws(self):
        for plan in SMALL + PLANS:
            self.check(mean_bad(plan), product(X, mean_draws(plan)))

    def test_draws_are_the_odds_of_coming_to_where_one_draws_on(self):
        for plan in SMALL + PLANS:
            ways = plain_ways(plan)
            totals = [0] * (len(plan) + 1)
            for count in plain_come_to(plain_on(plan)) & plain_on(plan):
                for place, many in enumerate(powers_of(*count)):
                    totals[place] += ways[count] * many
            self.check(mean_draws(plan), as_told(totals))

    def test_told_polynomials_are_the_askers_own(self):
        for tell in (mean_draws, mean_bad):
            for plan in (ONE_PLACE, WITH_GAPS):
                told = tell(plan)
                kept = list(told)
                told[0] = (17, 1)
                told.append((19, 1))
                self.assertEqual(tell(plan), kept)


if __name__ == "__main__":
    unittest.main()
