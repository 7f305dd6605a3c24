import copy
import itertools
import random
import unittest
from fractions import Fraction

from lotdraw.errors import NoLot, NoShares
from lotdraw.fracs import under
from lotdraw.lotrules import lot_rule
from lotdraw.lots import lot_odds
from some_plans import (
    ALL_OF_24, BAD_OF_24, GAPS_OF_24, GOOD_OF_24, ONE_PLACE, PLANS, SMALL, WITH_GAPS,
    by_order, drawn_one_by_one, plain_ends,
)

LONG = 10 ** 300 - 1
TWO_OR_THREE = ((0,), (0, 1), (1,))
NO_MOSTS = ((-1, 1), (-1, 2), (2, 1), (3, 2), (LONG, LONG - 1), (-1, LONG), (LONG, 1))


def told(fraction):
    fraction = Fraction(fraction)
    return (fraction.numerator, fraction.denominator)


def odds_at(plan, size, bad):
    often = drawn_one_by_one(plan, size, bad)
    return {end: often[end] for end in plain_ends(plan)}


def in_turn(wrongs, catches):
    """The ends that may be taken, those never refused wrongly ahead."""
    sure = [end for end in by_order(wrongs) if wrongs[end] == 0 and catches[end] != 0]
    others = [end for end in by_order(wrongs) if wrongs[end] != 0]
    return sure, sorted(others, key=lambda end: (-catches[end] / wrongs[end], sum(end), end[0]))


def plain_rule(plan, size, low, high, most):
    wrongs = odds_at(plan, size, low)
    catches = odds_at(plan, size, high)
    sure, others = in_turn(wrongs, catches)
    rule = list(sure)
    first = Fraction(0)
    for end in others:
        if sum(wrongs[part] for part in rule) + wrongs[end] > Fraction(*most):
            first = catches[end] / wrongs[end]
            break
        rule.append(end)
    wrong = sum(wrongs[end] for end in rule)
    caught = sum(catches[end] for end in rule)
    return (by_order(rule), told(first), told(wrong), told(caught))


def mosts_for(plan, size, low, high, source):
    """Nought, one, mosts that are kept just so, and that are just not kept."""
    wrongs = odds_at(plan, size, low)
    sure, others = in_turn(wrongs, odds_at(plan, size, high))
    sums = list(itertools.accumulate(wrongs[end] for end in others))
    chosen = source.sample(sums, min(2, len(sums)))
    return [(0, 1), (1, 1)] + [told(most - shift) for most in chosen for shift in (0, most / 10 ** 9)]


class LotRule(unittest.TestCase):
    def check(self, plan, size, low, high, most):
        answer = lot_rule(plan, size, low, high, most)
        self.assertIs(type(answer), tuple)
        self.assertEqual([type(part) for part in answer], [list, tuple, tuple, tuple])
        self.assertEqual(answer, plain_rule(plan, size, low, high, most))
        return answer

    def test_written_out(self):
        self.assertEqual(lot_rule(TWO_OR_THREE, 3, 0, 1, (0, 1)), ([(1, 2)], (1, 3), (0, 1), (2, 3)))
        self.assertEqual(lot_rule(TWO_OR_THREE, 3, 0, 1, (1, 1)), ([(0, 2), (1, 2)], (0, 1), (1, 1), (1, 1)))
        self.assertEqual(lot_rule(TWO_OR_THREE, 3, 1, 3, (1, 3)), ([(0, 2), (2, 0)], (0, 1), (1, 3), (1, 1)))
        self.assertEqual(lot_rule(ONE_PLACE, 10, 1, 3, (1, 10)), ([(1, 0)], (7, 9), (1, 10), (3, 10)))
        self.assertEqual(lot_rule(ONE_PLACE, 10, 1, 3, (99, 1000)), ([], (3, 1), (0, 1), (0, 1)))
        self.assertEqual(lot_rule(ONE_PLACE, 10, 0, 10, (0, 1)), ([(1, 0)], (0, 1), (0, 1), (1, 1)))

    def test_small_plans(self):
        source = random.Random(91)
        for plan in SMALL[::2] + [WITH_GAPS]:
            for size in (len(plan), len(plan) + 2, 12):
                for low, high in itertools.combinations(sorted({0, 1, size // 2, size}), 2):
                    for most in mosts_for(plan, size, low, high, source):
                        self.check(plan, size, low, high, most)

    def test_long_plans_and_large_lots(self):
        source = random.Random(92)
        for plan in PLANS[::3]:
            for size in (len(plan), 60, 200):
                low, high = sorted(source.sample(range(size + 1), 2))
                for most in mosts_for(plan, size, low, high, source):
                    self.check(plan, size, low, high, most)

    def test_ends_without_odds_are_never_taken(self):
        for plan in SMALL + [ALL_OF_24, BAD_OF_24, GAPS_OF_24]:
            size = len(plan) + 1
            rule = lot_rule(plan, size, 1, 2, (1, 1))[0]
            for end in plain_ends(plan):
                odds = [lot_odds(plan, end, size, bad) for bad in (1, 2)]
                self.assertEqual(end in rule, odds != [(0, 1), (0, 1)])

    def test_ends_never_refused_wrongly_are_always_taken(self):
        for plan in SMALL + [ALL_OF_24, GOOD_OF_24, GAPS_OF_24]:
            size = len(plan) + 1
            for low, high in ((0, 1), (1, 2), (1, size), (0, size)):
                if low < high:
                    rule, first, wrong, caught = lot_rule(plan, size, low, high, (0, 1))
                    self.assertEqual(wrong, (0, 1))
                    for end in plain_ends(plan):
                        awaited = lot_odds(plan, end, size, low) == (0, 1) != lot_odds(plan, end, size, high)
                        self.assertEqual(end in rule, awaited)

    def test_ends_with_the_same_ratio(self):
        # Of these ends (1, 1) and (2, 2) have the ratio 1, and the second one would still be within 1/15.
        plan = ((0,), (0, 1), (2,), (2,))
        self.assertEqual(lot_rule(plan, 6, 2, 4, (1, 15)), ([(3, 0), (3, 1)], (1, 1), (0, 1), (1, 3)))
        self.assertEqual(lot_rule(plan, 6, 2, 4, (8, 15)),
                         ([(1, 1), (3, 0), (3, 1)], (1, 1), (8, 15), (13, 15)))
        self.assertEqual(lot_rule(plan, 6, 2, 4, (3, 5)),
                         ([(1, 1), (3, 0), (2, 2), (3, 1)], (1, 6), (3, 5), (14, 15)))

    def test_no_refused_end_is_below_the_ratio_and_no_other_above(self):
        for plan in SMALL + PLANS[::5]:
            size = len(plan) + 4
            for most in ((1, 20), (2, 5), (9, 10)):
                rule, first, wrong, caught = lot_rule(plan, size, 2, 4, most)
                for end in plain_ends(plan):
                    low, high = (Fraction(*lot_odds(plan, end, size, bad)) for bad in (2, 4))
                    if low and end in rule:
                        self.assertFalse(under(told(high / low), first))
                    elif low:
                        self.assertFalse(under(first, told(high / low)))

    def test_no_set_of_ends_with_as_little_wrong_catches_more(self):
        for plan in SMALL[::4] + [WITH_GAPS]:
            for size, low, high in ((len(plan), 0, 1), (len(plan), 1, len(plan)), (8, 2, 5), (8, 0, 3), (8, 7, 8)):
                if low < high:
                    wrongs = odds_at(plan, size, low)
                    catches = odds_at(plan, size, high)
                    sets = [
                        (sum(wrongs[end] for end in some), sum(catches[end] for end in some))
                        for many in range(len(wrongs) + 1) for some in itertools.combinations(wrongs, many)
                    ]
                    for most in ((0, 1), (1, 9), (1, 3), (3, 5), (1, 1)):
                        rule, first, wrong, caught = lot_rule(plan, size, low, high, most)
                        best = max(catch for often, catch in sets if often <= Fraction(*wrong))
                        self.assertEqual(told(best), caught)

    def test_sizes_that_no_lot_has_come_ahead(self):
        for plan in SMALL[:20] + PLANS:
            for size in (len(plan) - 1, 0, -1, 201, LONG, -LONG):
                for low, high in ((0, 1), (1, 0), (-1, 5), (3, 3), (0, LONG)):
                    for most in ((1, 2), (2, 1)):
                        with self.assertRaises(NoLot):
                            lot_rule(plan, size, low, high, most)

    def test_numbers_and_mosts_that_are_none(self):
        for plan in SMALL[:20] + PLANS:
            for size in (len(plan), 200):
                numbers = (
                    (1, 0), (1, 1), (0, 0), (size, size), (size, size - 1), (-1, 0), (-1, size), (0, size + 1),
                    (size, size + 1), (-2, -1), (0, LONG), (-LONG, 0),
                )
                for low, high in numbers:
                    for most in ((1, 2), (0, 1), (-1, 2)):
                        with self.assertRaises(NoShares):
                            lot_rule(plan, size, low, high, most)
                for most in NO_MOSTS:
                    with self.assertRaises(NoShares):
                        lot_rule(plan, size, 0, 1, most)

    def test_bounds_that_are_kept(self):
        for plan in SMALL[:20] + PLANS[:10]:
            for size in (len(plan), 200):
                rule, first, wrong, caught = lot_rule(plan, size, 0, size, (0, 1))
                self.assertEqual(rule, [end for end in plain_ends(plan) if end[1] == 0])
                self.assertEqual((wrong, caught), ((0, 1), (1, 1)))

    def test_told_rules_are_the_askers_own(self):
        answer = lot_rule(WITH_GAPS, 20, 2, 9, (1, 2))
        kept = copy.deepcopy(answer)
        answer[0].append((9, 9))
        self.assertEqual(lot_rule(WITH_GAPS, 20, 2, 9, (1, 2)), kept)


if __name__ == "__main__":
    unittest.main()
