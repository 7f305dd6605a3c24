import itertools
import random
import unittest
from fractions import Fraction

from lotdraw.errors import NotOnly, Only
from lotdraw.fracs import plus
from lotdraw.odds import mean_of
from lotdraw.only import is_side_by_side, nought_telling, standing_out, stretches
from lotdraw.plans import is_plan
from lotdraw.tellings import shares
from some_plans import (
    ALL_OF_24, BAD_OF_24, GAPS_OF_24, GOOD_OF_24, ONE_PLACE, PLANS, WITH_GAPS,
    all_plans, any_plan, plain_ends, plain_ways, powers_of,
)

LONG = 10 ** 300 - 1
X = [(0, 1), (1, 1)]


def longer_stretch(plan, low, high):
    return plan + (tuple(range(plan[-1][0] + low, plan[-1][-1] + 2 - high)),)


def all_side_by_side(places):
    """All plans of at most so many places, each of which is one stretch."""
    told = []
    last = [ONE_PLACE]
    for turn in range(places):
        told.extend(last)
        longer = []
        for plan in last:
            width = len(plan[-1]) + 1
            for low, high in itertools.product(range(width), repeat=2):
                if low + high < width:
                    longer.append(longer_stretch(plan, low, high))
        last = longer
    return told


def any_side_by_side(source, places):
    plan = ONE_PLACE
    while len(plan) < places:
        width = len(plan[-1]) + 1
        low = source.choice((0, 0, 1, source.randrange(width)))
        high = source.choice((0, 0, 1, source.randrange(width)))
        if low + high < width:
            plan = longer_stretch(plan, low, high)
    return plan


def has_gap(place):
    return place[-1] - place[0] >= len(place)


def rank_of(rows):
    """How many of the rows don't come of the others."""
    rows = [[Fraction(number) for number in row] for row in rows]
    rank = 0
    for at in range(len(rows[0])):
        found = [row for row in rows[rank:] if row[at] != 0]
        if found:
            first = found[0]
            rest = [row for row in rows[rank:] if row is not first]
            rest = [[one - row[at] / first[at] * other for one, other in zip(row, first)] for row in rest]
            rows = rows[:rank] + [first] + rest
            rank += 1
    return rank


def odds_of(plan):
    ways = plain_ways(plan)
    width = len(plan) + 1
    rows = [[ways[end] * many for many in powers_of(*end)] for end in plain_ends(plan)]
    return [row + [0] * (width - len(row)) for row in rows]


SOURCE = random.Random(61)
BESIDE = all_side_by_side(6) + [any_side_by_side(SOURCE, places) for places in range(1, 25) for turn in range(12)]
BESIDE += [ONE_PLACE, ALL_OF_24, GOOD_OF_24, BAD_OF_24]
GAPPED = [plan for plan in all_plans(5) + PLANS if any(has_gap(place) for place in plan)]
GAPPED += [plan for plan in (any_plan(SOURCE, 24, 12) for turn in range(40)) if any(has_gap(place) for place in plan)]


class Stretches(unittest.TestCase):
    def test_written_out(self):
        self.assertEqual(stretches(()), [])
        self.assertEqual(stretches((0,)), [(0, 0)])
        self.assertEqual(stretches((7,)), [(7, 7)])
        self.assertEqual(stretches((3, 4, 5)), [(3, 5)])
        self.assertEqual(stretches((0, 2)), [(0, 0), (2, 2)])
        self.assertEqual(stretches((0, 1, 3, 5, 6, 7, 20)), [(0, 1), (3, 3), (5, 7), (20, 20)])

    def test_numbers_below_nought_and_long_ones(self):
        self.assertEqual(stretches((-LONG, -2, -1, 0, 2, LONG - 1, LONG)),
                         [(-LONG, -LONG), (-2, 0), (2, 2), (LONG - 1, LONG)])

    def test_all_rows_of_eight_numbers(self):
        for many in range(9):
            for row in itertools.combinations(range(8), many):
                told = stretches(row)
                self.assertIs(type(told), list)
                self.assertTrue(all(type(part) is tuple for part in told))
                self.assertEqual([n for first, last in told for n in range(first, last + 1)], list(row))
                for (first, last), (later, end) in zip(told, told[1:]):
                    self.assertGreater(later, last + 1)

    def test_told_lists_are_the_askers_own(self):
        row = (1, 2, 4)
        told = stretches(row)
        told.append((9, 9))
        self.assertEqual(stretches(row), [(1, 2), (4, 4)])
        self.assertEqual(row, (1, 2, 4))

    def test_as_many_ends_as_one_and_the_stretches(self):
        for plan in all_plans(5) + PLANS + BESIDE + GAPPED:
            many = sum(len(stretches(place)) for place in plan)
            self.assertEqual(len(plain_ends(plan)), 1 + many)


class SideBySide(unittest.TestCase):
    def test_written_out(self):
        for plan in (ONE_PLACE, ((0,), (1,)), ((0,), (0, 1), (1,)), ALL_OF_24, GOOD_OF_24, BAD_OF_24):
            self.assertIs(is_side_by_side(plan), True)
        for plan in (((0,), (0, 1), (0, 2)), WITH_GAPS, GAPS_OF_24, ((0,), (0, 1), (0, 1, 2), (0, 1, 3))):
            self.assertIs(is_side_by_side(plan), False)

    def test_a_gap_in_one_place_alone(self):
        for at in range(2, 24):
            gap = tuple(bad for bad in range(at + 1) if bad != at - 1)
            plan = ALL_OF_24[:at] + (gap,)
            self.assertIs(is_side_by_side(plan), False)
            whole = tuple(range(at + 2))
            if at < 23:
                self.assertIs(is_side_by_side(plan + (whole,)), False)

    def test_plans_with_and_without_gaps(self):
        for plan in BESIDE:
            self.assertTrue(is_plan(plan))
            self.assertIs(is_side_by_side(plan), True)
        for plan in GAPPED:
            self.assertIs(is_side_by_side(plan), False)


class StandingOut(unittest.TestCase):
    def check(self, plan, told):
        self.assertIs(type(told), list)
        self.assertEqual(sorted(end for end, side in told), sorted(plain_ends(plan)))
        for at, part in enumerate(told):
            self.assertIs(type(part), tuple)
            end, side = part
            self.assertIn(side, ("bad", "good"))
            which = ("bad", "good").index(side)
            for later, later_side in told[at + 1:]:
                self.assertGreater(later[which], end[which])

    def test_each_end_stands_out_in_turn(self):
        for plan in BESIDE:
            self.check(plan, standing_out(plan))

    def test_plans_with_gaps(self):
        for plan in GAPPED:
            with self.assertRaises(NotOnly):
                standing_out(plan)

    def test_told_lists_are_the_askers_own(self):
        told = standing_out(ALL_OF_24)
        kept = list(told)
        told.clear()
        self.assertEqual(standing_out(ALL_OF_24), kept)

    def test_no_odds_come_of_others(self):
        for plan in BESIDE[:200:3] + BESIDE[-40:]:
            self.assertEqual(rank_of(odds_of(plan)), len(plain_ends(plan)))


class NoughtTelling(unittest.TestCase):
    def test_the_mean_is_nought(self):
        for plan in GAPPED:
            told = nought_telling(plan)
            self.assertIs(type(told), list)
            self.assertEqual(len(told), len(plain_ends(plan)))
            for part in told:
                self.assertIs(type(part), tuple)
                self.assertEqual([type(number) for number in part], [int, int])
                self.assertEqual(part[1], 1)
            self.assertTrue(any(part != (0, 1) for part in told))
            self.assertEqual(mean_of(plan, told), [])

    def test_worked_out_apart_from_the_program(self):
        for plan in GAPPED[::5]:
            totals = [0] * (len(plan) + 1)
            for (weight, bottom), row in zip(nought_telling(plan), odds_of(plan)):
                totals = [total + weight * number for total, number in zip(totals, row)]
            self.assertEqual(set(totals), {0})

    def test_another_telling_is_right_in_the_mean(self):
        for plan in GAPPED[::7]:
            other = [plus(share, weight) for share, weight in zip(shares(plan), nought_telling(plan))]
            self.assertNotEqual(other, shares(plan))
            self.assertEqual(mean_of(plan, other), X)

    def test_plans_side_by_side(self):
        for plan in BESIDE:
            with self.assertRaises(Only):
                nought_telling(plan)

    def test_told_lists_are_the_askers_own(self):
        told = nought_telling(WITH_GAPS)
        kept = list(told)
        told.clear()
        self.assertEqual(nought_telling(WITH_GAPS), kept)


if __name__ == "__main__":
    unittest.main()
