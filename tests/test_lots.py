import copy
import itertools
import math
import random
import unittest
from fractions import Fraction

from lotdraw.errors import NoEnd, NoLot, NoTelling
from lotdraw.fracs import frac, times
from lotdraw.lots import lot_mean, lot_odds
from lotdraw.odds import odds
from lotdraw.polys import of_count, scaled, sum_of
from some_plans import (
    ALL_OF_24, BAD_OF_24, GAPS_OF_24, GOOD_OF_24, ONE_PLACE, PLANS, SMALL, WITH_GAPS,
    as_told, drawn_one_by_one, plain_ends, plain_on, powers_of,
)

LONG = 10 ** 300 - 1
WIDE = [ONE_PLACE, WITH_GAPS, GOOD_OF_24, BAD_OF_24, ALL_OF_24, GAPS_OF_24]


def by_all_orders(plan, size, bad):
    """How often one comes to each end, all orders of the pieces being gone through one by one."""
    on = plain_on(plan)
    many = {}
    for places in itertools.combinations(range(size), bad):
        count = (0, 0)
        while count in on:
            is_bad = sum(count) in places
            count = (count[0] + is_bad, count[1] + 1 - is_bad)
        many[count] = many.get(count, 0) + 1
    return {end: Fraction(often, math.comb(size, bad)) for end, often in many.items()}


def sizes_for(plan):
    return sorted({len(plan), len(plan) + 1, len(plan) + 7, 200})


def some_of(size):
    return sorted({0, 1, 2, size // 3, size // 2, size - 2, size - 1, size} & set(range(size + 1)))


class LotCase(unittest.TestCase):
    def check(self, told, awaited):
        self.assertIs(type(told), tuple)
        self.assertEqual([type(part) for part in told], [int, int])
        awaited = Fraction(awaited)
        self.assertEqual(told, (awaited.numerator, awaited.denominator))


class LotOdds(LotCase):
    def test_written_out(self):
        plan = ((0,), (0, 1), (1,))
        self.check(lot_odds(plan, (0, 2), 3, 1), Fraction(1, 3))
        self.check(lot_odds(plan, (1, 2), 3, 1), Fraction(2, 3))
        self.check(lot_odds(plan, (2, 0), 3, 1), 0)
        self.check(lot_odds(plan, (2, 1), 3, 1), 0)
        self.check(lot_odds(plan, (1, 2), 200, 100), Fraction(2 * 100 * 100 * 99, 200 * 199 * 198))
        self.check(lot_odds(ONE_PLACE, (1, 0), 1, 1), 1)
        self.check(lot_odds(ONE_PLACE, (0, 1), 1, 1), 0)

    def test_all_orders_of_the_pieces(self):
        for plan in SMALL + [WITH_GAPS]:
            for size in range(len(plan), 7):
                for bad in range(size + 1):
                    awaited = by_all_orders(plan, size, bad)
                    for end in plain_ends(plan):
                        self.check(lot_odds(plan, end, size, bad), awaited.get(end, 0))

    def test_pieces_drawn_one_by_one(self):
        for plan in PLANS:
            for size in sizes_for(plan):
                bad = size // 3
                often = drawn_one_by_one(plan, size, bad)
                for end in plain_ends(plan):
                    self.check(lot_odds(plan, end, size, bad), often[end])

    def test_each_number_of_bad_in_lots_of_least_size_and_of_200(self):
        for plan in WIDE:
            for size in (len(plan), len(plan) + 1, 200):
                for bad in range(size + 1):
                    often = drawn_one_by_one(plan, size, bad)
                    total = 0
                    for end in plain_ends(plan):
                        told = lot_odds(plan, end, size, bad)
                        self.check(told, often[end])
                        total += Fraction(*told)
                    self.assertEqual(total, 1)

    def test_they_come_to_one(self):
        for plan in SMALL + PLANS[6:40:3]:
            for size in sizes_for(plan):
                for bad in some_of(size):
                    total = sum(Fraction(*lot_odds(plan, end, size, bad)) for end in plain_ends(plan))
                    self.assertEqual(total, 1)

    def test_more_bad_or_more_good_than_the_lot_has(self):
        for plan in SMALL[:30] + WIDE:
            for size in (len(plan), len(plan) + 3):
                for bad in range(size + 1):
                    for end in plain_ends(plan):
                        told = lot_odds(plan, end, size, bad)
                        self.assertEqual(told == (0, 1), end[0] > bad or end[1] > size - bad)

    def test_put_together_over_all_numbers_of_bad(self):
        for plan in SMALL[::7] + WIDE:
            for size in (len(plan), len(plan) + 2, 40):
                for end in plain_ends(plan):
                    total = []
                    for bad in range(size + 1):
                        often = times((math.comb(size, bad), 1), lot_odds(plan, end, size, bad))
                        total = sum_of(total, scaled(of_count(bad, size - bad), often))
                    self.assertTrue(total == odds(plan, end))

    def test_put_together_in_lots_of_200(self):
        for plan, end in ((ONE_PLACE, (0, 1)), (WITH_GAPS, (2, 1)), (GAPS_OF_24, (2, 22)), (ALL_OF_24, (13, 11))):
            totals = [Fraction(0)] * 201
            for bad in range(201):
                often = math.comb(200, bad) * Fraction(*lot_odds(plan, end, 200, bad))
                for place, many in enumerate(powers_of(bad, 200 - bad)):
                    totals[place] += often * many
            self.assertTrue(as_told(totals) == odds(plan, end))

    def test_sizes_and_numbers_that_no_lot_has(self):
        for plan in SMALL[:30] + PLANS:
            end = plain_ends(plan)[-1]
            most = len(plan)
            for size in (most - 1, 0, -1, -most, 201, 1000, LONG, -LONG):
                for bad in (0, 1, size, size + 1, -1):
                    with self.assertRaises(NoLot):
                        lot_odds(plan, end, size, bad)
            for size in (most, most + 1, 200):
                for bad in (-1, -2, size + 1, 201, LONG, -LONG):
                    with self.assertRaises(NoLot):
                        lot_odds(plan, end, size, bad)

    def test_bounds_that_are_kept(self):
        for plan in SMALL[:30] + PLANS:
            for size in (len(plan), 200):
                total = [lot_odds(plan, end, size, bad) for bad in (0, size) for end in plain_ends(plan)]
                self.assertEqual(sum(part == (1, 1) for part in total), 2)
                self.assertEqual(sum(part == (0, 1) for part in total), len(total) - 2)

    def test_counts_that_are_no_ends(self):
        for plan in SMALL[:30] + PLANS[:12]:
            there = set(plain_ends(plan))
            counts = [(bad, draws - bad) for draws in range(len(plan) + 2) for bad in range(draws + 1)]
            for count in counts + [(LONG, 0), (0, LONG)]:
                if count not in there:
                    with self.assertRaises(NoEnd):
                        lot_odds(plan, count, len(plan), 1)

    def test_no_lot_comes_ahead_of_no_end(self):
        for size, bad in ((1, 0), (201, 0), (2, 3), (2, -1)):
            for count in ((0, 0), (5, 5), (1, 0)):
                with self.assertRaises(NoLot):
                    lot_odds(((0,), (0, 1)), count, size, bad)


class LotMean(LotCase):
    def numbers_for(self, plan, source, most):
        return [frac(source.randint(-most, most), source.randint(1, most)) for end in plain_ends(plan)]

    def test_written_out(self):
        plan = ((0,), (0, 1), (1,))
        self.check(lot_mean(plan, [(2, 1), (2, 1), (3, 1), (3, 1)], 3, 1), Fraction(8, 3))
        self.check(lot_mean(plan, [(1, 2), (7, 1), (0, 1), (0, 1)], 3, 1), Fraction(1, 6))
        self.check(lot_mean(ONE_PLACE, [(0, 1), (1, 1)], 200, 30), Fraction(3, 20))

    def test_numbers_by_chance(self):
        source = random.Random(21)
        for plan in SMALL + PLANS:
            for size in sizes_for(plan):
                bad = source.randint(0, size)
                often = drawn_one_by_one(plan, size, bad)
                numbers = self.numbers_for(plan, source, 50)
                awaited = sum(often[end] * Fraction(*number) for end, number in zip(plain_ends(plan), numbers))
                self.check(lot_mean(plan, numbers, size, bad), awaited)

    def test_numbers_of_three_hundred_figures(self):
        source = random.Random(22)
        for plan in WIDE:
            often = drawn_one_by_one(plan, 100, 41)
            numbers = self.numbers_for(plan, source, LONG)
            awaited = sum(often[end] * Fraction(*number) for end, number in zip(plain_ends(plan), numbers))
            self.check(lot_mean(plan, numbers, 100, 41), awaited)

    def test_one_told_at_one_end_alone_is_its_odds(self):
        for plan in SMALL[:40] + [WITH_GAPS, GAPS_OF_24]:
            there = plain_ends(plan)
            for at, end in enumerate(there):
                numbers = [(0, 1)] * len(there)
                numbers[at] = (1, 1)
                size = len(plan) + 2
                self.assertEqual(lot_mean(plan, numbers, size, 2), lot_odds(plan, end, size, 2))

    def test_mean_of_bad_found(self):
        for plan in SMALL + PLANS:
            for size in sizes_for(plan):
                for bad in some_of(size)[1::2]:
                    often = drawn_one_by_one(plan, size, bad)
                    awaited = sum(
                        often[found, fine] * Fraction(bad - found, size - found - fine)
                        for found, fine in plain_on(plan) if often[found, fine]
                    )
                    told = lot_mean(plan, [(found, 1) for found, fine in plain_ends(plan)], size, bad)
                    self.check(told, awaited)

    def test_lists_of_another_length(self):
        for plan in SMALL[:30] + PLANS:
            many = len(plain_ends(plan))
            for length in (0, 1, many - 1, many + 1):
                numbers = [(1, 2)] * length
                with self.assertRaises(NoTelling):
                    lot_mean(plan, numbers, 30, 3)
                self.assertEqual(numbers, [(1, 2)] * length)

    def test_sizes_and_numbers_that_no_lot_has(self):
        for plan in SMALL[:30] + PLANS:
            most = len(plan)
            for length in (len(plain_ends(plan)), 0, 1, 200):
                numbers = [(1, 2)] * length
                lots = ((most - 1, 0), (201, 0), (-1, 0), (LONG, 1), (most, -1), (most, most + 1), (200, 201))
                for size, bad in lots:
                    with self.assertRaises(NoLot):
                        lot_mean(plan, numbers, size, bad)

    def test_the_list_handed_in_stays(self):
        source = random.Random(23)
        for plan in (ONE_PLACE, WITH_GAPS, ALL_OF_24):
            numbers = self.numbers_for(plan, source, 20)
            kept = copy.deepcopy(numbers)
            told = lot_mean(plan, numbers, 60, 9)
            self.assertEqual(numbers, kept)
            self.assertEqual(lot_mean(plan, numbers, 60, 9), told)


if __name__ == "__main__":
    unittest.main()
