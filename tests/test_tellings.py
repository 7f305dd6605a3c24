import copy
import random
import unittest
from fractions import Fraction

from lotdraw.errors import NoEnd, NoTelling, TooMany
from lotdraw.fracs import frac, power
from lotdraw.lots import lot_mean
from lotdraw.odds import mean_of
from lotdraw.polys import of_count, scaled, sum_of
from lotdraw.rows import rows_of
from lotdraw.tellings import averaged, left_within, share_at, shares
from some_plans import (
    ALL_OF_24, BAD_OF_24, GAPS_OF_24, GOOD_OF_24, ONE_PLACE, PLANS, SMALL, WITH_GAPS,
    plain_ends, plain_on, plain_rows, plain_ways,
)

LONG = 10 ** 300 - 1
THIRTY = 10 ** 30 - 1
X = [(0, 1), (1, 1)]
TWO_OR_THREE = ((0,), (0, 1), (1,))
MANY_ROWS = ALL_OF_24[:11]


def has_few_rows(plan):
    ways = plain_ways(plan)
    return sum(ways[end] for end in plain_ends(plan)) <= 300


FEW = [plan for plan in SMALL + PLANS if has_few_rows(plan)] + [ALL_OF_24[:8]]


def rows_to_ends(plan):
    """Tuples (row, end), in the order of texts."""
    on = plain_on(plan)
    return sorted((row, count) for row, count in plain_rows(plan) if count not in on)


def any_telling(plan, source, most):
    return [frac(source.randint(-most, most), source.randint(1, most)) for row in rows_to_ends(plan)]


def plain_groups(plan, telling):
    """For each end the fractions told at the rows that lead to it."""
    pairs = list(zip(rows_to_ends(plan), telling))
    return [[Fraction(*part) for (row, count), part in pairs if count == end] for end in plain_ends(plan)]


def mean_at_rows(plan, telling):
    total = []
    for (row, count), part in zip(rows_to_ends(plan), telling):
        total = sum_of(total, scaled(of_count(*count), part))
    return total


class TellingCase(unittest.TestCase):
    def check_fraction(self, told, awaited):
        self.assertIs(type(told), tuple)
        self.assertEqual([type(part) for part in told], [int, int])
        awaited = Fraction(awaited)
        self.assertTrue(told == (awaited.numerator, awaited.denominator), "not the fraction awaited")

    def check_list(self, told, awaited):
        self.assertIs(type(told), list)
        self.assertEqual(len(told), len(awaited))
        for one, other in zip(told, awaited):
            self.check_fraction(one, other)


class Shares(TellingCase):
    def test_written_out(self):
        self.check_list(shares(ONE_PLACE), [0, 1])
        self.check_list(shares(TWO_OR_THREE), [0, 1, Fraction(1, 2), Fraction(1, 2)])
        self.check_fraction(share_at(TWO_OR_THREE, (0, 2)), 0)
        self.check_fraction(share_at(TWO_OR_THREE, (2, 0)), 1)
        self.check_fraction(share_at(TWO_OR_THREE, (2, 1)), Fraction(1, 2))
        self.check_list(shares(BAD_OF_24), [0] + [1] * 24)
        self.check_list(shares(GOOD_OF_24), [1] + [0] * 24)
        self.check_list(shares(ALL_OF_24), [Fraction(bad, 24) for bad in range(25)])

    def test_drawing_till_so_many_are_bad(self):
        plan = tuple(tuple(range(min(draws, 2) + 1)) for draws in range(24))
        for draws in range(3, 24):
            self.check_fraction(share_at(plan, (3, draws - 3)), Fraction(2, draws - 1))

    def test_all_rows_gone_through(self):
        for plan in FEW:
            pairs = rows_to_ends(plan)
            awaited = []
            for end in plain_ends(plan):
                there = [row for row, count in pairs if count == end]
                awaited.append(Fraction(sum(row[0] == "b" for row in there), len(there)))
            self.check_list(shares(plan), awaited)

    def test_one_by_one_and_all_at_once(self):
        for plan in SMALL + PLANS:
            self.assertEqual(shares(plan), [share_at(plan, end) for end in plain_ends(plan)])

    def test_right_in_the_mean(self):
        for plan in SMALL + PLANS:
            self.assertTrue(mean_of(plan, shares(plan)) == X)

    def test_mean_in_a_lot_is_its_share_of_bad(self):
        for plan in SMALL + PLANS:
            for size in {len(plan), len(plan) + 5, 200}:
                for bad in (0, 1, size // 3, size - 1, size):
                    self.check_fraction(lot_mean(plan, shares(plan), size, bad), Fraction(bad, size))

    def test_counts_that_are_no_ends(self):
        for plan in SMALL[:30] + PLANS:
            there = set(plain_ends(plan))
            counts = [(bad, draws - bad) for draws in range(len(plan) + 2) for bad in range(draws + 1)]
            for count in counts + [(25, 0), (LONG, 0), (0, LONG), (LONG, LONG)]:
                if count not in there:
                    with self.assertRaises(NoEnd):
                        share_at(plan, count)

    def test_told_lists_are_the_askers_own(self):
        told = shares(WITH_GAPS)
        kept = list(told)
        told[0] = (9, 1)
        told.append((8, 1))
        self.assertEqual(shares(WITH_GAPS), kept)


class AtRows(TellingCase):
    def test_written_out(self):
        # The rows are bb, bgb, bgg, gbb, gbg, gg.
        telling = [(1, 1), (1, 2), (1, 3), (1, 4), (1, 5), (0, 1)]
        self.check_list(averaged(TWO_OR_THREE, telling), [0, 1, Fraction(4, 15), Fraction(3, 8)])
        self.check_list(left_within(TWO_OR_THREE, telling), [0, 0, Fraction(2, 225), Fraction(1, 32)])
        self.check_list(averaged(ONE_PLACE, [(-3, 7), (5, 1)]), [5, Fraction(-3, 7)])
        self.check_list(left_within(ONE_PLACE, [(-3, 7), (5, 1)]), [0, 0])

    def test_tellings_by_chance(self):
        source = random.Random(24)
        for plan in FEW:
            for most in (1, 12, THIRTY):
                telling = any_telling(plan, source, most)
                groups = plain_groups(plan, telling)
                means = [sum(group) / len(group) for group in groups]
                self.check_list(averaged(plan, telling), means)
                left = [sum((part - mean) ** 2 for part in group) for group, mean in zip(groups, means)]
                self.check_list(left_within(plan, telling), left)

    def test_two_thousand_rows_of_thirty_figures(self):
        source = random.Random(25)
        for most in (1000, THIRTY):
            telling = any_telling(MANY_ROWS, source, most)
            groups = plain_groups(MANY_ROWS, telling)
            means = [sum(group) / len(group) for group in groups]
            self.check_list(averaged(MANY_ROWS, telling), means)
            squares = [sum(part ** 2 for part in group) for group in groups]
            left = [square - len(group) * mean ** 2 for square, group, mean in zip(squares, groups, means)]
            self.check_list(left_within(MANY_ROWS, telling), left)

    def test_first_draw_told_is_averaged_to_the_share(self):
        for plan in FEW:
            telling = [(1, 1) if row[0] == "b" else (0, 1) for row, count in rows_to_ends(plan)]
            self.assertTrue(mean_at_rows(plan, telling) == X)
            self.assertEqual(averaged(plan, telling), shares(plan))

    def test_right_in_the_mean_stays_so(self):
        for plan in FEW:
            # What is told here is the share but for two rows to one end, which make up for one another.
            pairs = rows_to_ends(plan)
            told = dict(zip(plain_ends(plan), shares(plan)))
            telling = [told[count] for row, count in pairs]
            firsts = {}
            for place, (row, count) in enumerate(pairs):
                if count in firsts:
                    other = firsts.pop(count)
                    telling[place] = frac(telling[place][0] + 5 * telling[place][1], telling[place][1])
                    telling[other] = frac(telling[other][0] - 5 * telling[other][1], telling[other][1])
                else:
                    firsts[count] = place
            self.assertTrue(mean_at_rows(plan, telling) == X)
            self.assertTrue(mean_of(plan, averaged(plan, telling)) == X)

    def test_averaging_keeps_every_mean(self):
        source = random.Random(27)
        for plan in FEW:
            telling = any_telling(plan, source, 20)
            self.assertTrue(mean_of(plan, averaged(plan, telling)) == mean_at_rows(plan, telling))

    def test_mean_of_squares(self):
        source = random.Random(28)
        for plan in FEW[::2] + [GAPS_OF_24[:6]]:
            telling = any_telling(plan, source, 9)
            squares = mean_at_rows(plan, [power(part, 2) for part in telling])
            total = mean_of(plan, [power(part, 2) for part in averaged(plan, telling)])
            for end, left in zip(plain_ends(plan), left_within(plan, telling)):
                total = sum_of(total, scaled(of_count(*end), left))
            self.assertTrue(squares == total)

    def test_nothing_is_left_where_the_rows_of_an_end_agree(self):
        for plan in FEW:
            there = plain_ends(plan)
            told = dict(zip(there, [frac(7 - 2 * place, 3) for place in range(len(there))]))
            telling = [told[count] for row, count in rows_to_ends(plan)]
            self.assertEqual(averaged(plan, telling), [told[end] for end in there])
            self.assertEqual(left_within(plan, telling), [(0, 1)] * len(there))

    def test_lists_of_another_length(self):
        for tell in (averaged, left_within):
            for plan in FEW[:40] + [MANY_ROWS]:
                many = len(rows_of(plan))
                for length in (0, 1, many - 1, many + 1, len(plain_ends(plan))):
                    if length != many:
                        telling = [(1, 2)] * length
                        with self.assertRaises(NoTelling):
                            tell(plan, telling)
                        self.assertEqual(telling, [(1, 2)] * length)

    def test_plans_with_too_many_rows(self):
        for tell in (averaged, left_within):
            for plan in (ALL_OF_24, ALL_OF_24[:12], ALL_OF_24[:16]):
                for length in (0, 1, 4000, 4001, 4096, len(plain_ends(plan))):
                    with self.assertRaises(TooMany):
                        tell(plan, [(1, 2)] * length)

    def test_the_list_handed_in_stays(self):
        source = random.Random(29)
        for tell in (averaged, left_within):
            for plan in (ONE_PLACE, TWO_OR_THREE, WITH_GAPS, GOOD_OF_24):
                telling = any_telling(plan, source, 30)
                kept = copy.deepcopy(telling)
                told = tell(plan, telling)
                self.assertEqual(telling, kept)
                again = list(told)
                told[0] = (77, 1)
                told.append((1, 1))
                telling[0] = (55, 1)
                self.assertEqual(tell(plan, kept), again)


if __name__ == "__main__":
    unittest.main()
