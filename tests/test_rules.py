import copy
import itertools
import random
import unittest
from fractions import Fraction

from lotdraw.errors import NoEnd, NoShares
from lotdraw.fracs import frac, under
from lotdraw.odds import odds
from lotdraw.polys import of_count, worth
from lotdraw.rules import ratio, refusing, rule_by_ratio
from some_plans import (
    ALL_OF_24, BAD_OF_24, GAPS_OF_24, GOOD_OF_24, ONE_PLACE, PLANS, SMALL, WITH_GAPS,
    as_told, by_order, plain_ends, plain_ways, powers_of,
)

LONG = 10 ** 300 - 1
TWO_OR_THREE = ((0,), (0, 1), (1,))
# Two ends of this one have as many more bad than good, and so the same ratio at 1/3 and 2/3.
WITH_TIES = ((0,), (0,), (1,))
NO_PAIRS = (
    ((0, 1), (1, 2)), ((1, 2), (1, 1)), ((0, 1), (1, 1)), ((1, 2), (1, 2)), ((1, 2), (1, 3)), ((2, 3), (1, 7)),
    ((-1, 2), (1, 2)), ((1, 2), (3, 2)), ((-1, 2), (3, 2)), ((-2, 3), (-1, 3)), ((4, 3), (5, 3)), ((1, 1), (0, 1)),
    ((-LONG, 1), (1, 2)), ((1, 2), (LONG, 1)), ((LONG - 1, LONG), (LONG - 2, LONG - 1)),
)
NO_MOSTS = ((-1, 1), (-1, 2), (2, 1), (3, 2), (LONG, LONG - 1), (-1, LONG), (LONG, 1))
PAIRS = (((1, 3), (2, 3)), ((1, 10), (3, 10)), ((1, 4), (3, 4)), ((2, 7), (2, 5)))


def plain_odds(plan, share):
    share = Fraction(*share)
    ways = plain_ways(plan)
    return {(bad, good): ways[bad, good] * share ** bad * (1 - share) ** good for bad, good in plain_ends(plan)}


def told(fraction):
    fraction = Fraction(fraction)
    return (fraction.numerator, fraction.denominator)


def by_plain_ratio(wrongs, catches):
    return sorted(wrongs, key=lambda end: (-catches[end] / wrongs[end], sum(end), end[0]))


def plain_rule(plan, low, high, most):
    wrongs = plain_odds(plan, low)
    catches = plain_odds(plan, high)
    rule = []
    wrong = 0
    caught = 0
    first = Fraction(0)
    for end in by_plain_ratio(wrongs, catches):
        if wrong + wrongs[end] > Fraction(*most):
            first = catches[end] / wrongs[end]
            break
        rule.append(end)
        wrong += wrongs[end]
        caught += catches[end]
    return (by_order(rule), told(first), told(wrong), told(caught))


def mosts_for(plan, low, high, source):
    """Mosts that are kept just so, and that are just not kept."""
    wrongs = plain_odds(plan, low)
    there = by_plain_ratio(wrongs, plain_odds(plan, high))
    sums = list(itertools.accumulate(wrongs[end] for end in there))
    chosen = source.sample(sums, min(3, len(sums)))
    return [told(chosen[0] / 2)] + [told(most - shift) for most in chosen for shift in (0, most / 10 ** 9)]


class Refusing(unittest.TestCase):
    def check(self, plan, rule):
        ways = plain_ways(plan)
        totals = [0] * (len(plan) + 1)
        for end in set(rule):
            for place, many in enumerate(powers_of(*end)):
                totals[place] += ways[end] * many
        polynomial = refusing(plan, rule)
        self.assertIs(type(polynomial), list)
        self.assertEqual(polynomial, as_told(totals))

    def test_written_out(self):
        self.assertEqual(refusing(TWO_OR_THREE, [(2, 0), (2, 1)]), [(0, 1), (0, 1), (3, 1), (-2, 1)])
        self.assertEqual(refusing(ONE_PLACE, [(1, 0)]), [(0, 1), (1, 1)])

    def test_none_and_all(self):
        for plan in SMALL + PLANS:
            self.assertEqual(refusing(plan, []), [])
            self.assertEqual(refusing(plan, plain_ends(plan)), [(1, 1)])

    def test_one_alone(self):
        for plan in SMALL[:40] + [WITH_GAPS, GAPS_OF_24]:
            for end in plain_ends(plan):
                self.assertEqual(refusing(plan, [end]), odds(plan, end))

    def test_all_sets_of_ends(self):
        for plan in SMALL[:20] + [WITH_GAPS]:
            there = plain_ends(plan)
            for many in range(len(there) + 1):
                for rule in itertools.combinations(there, many):
                    self.check(plan, list(rule))

    def test_whatever_order_and_some_several_times(self):
        source = random.Random(71)
        for plan in SMALL + PLANS:
            there = plain_ends(plan)
            rule = source.sample(there, source.randint(1, len(there)))
            again = rule + source.choices(rule, k=5)
            source.shuffle(again)
            self.check(plan, again)
            self.assertEqual(refusing(plan, again), refusing(plan, rule))

    def test_counts_that_are_no_ends(self):
        for plan in SMALL[:30] + PLANS[:12]:
            there = plain_ends(plan)
            counts = [(bad, draws - bad) for draws in range(len(plan) + 2) for bad in range(draws + 1)]
            for count in counts + [(LONG, 0), (0, LONG)]:
                if count not in there:
                    for rule in ([count], there + [count], [count] + there, [there[0], count, count, there[-1]]):
                        with self.assertRaises(NoEnd):
                            refusing(plan, rule)

    def test_the_rule_handed_in_stays(self):
        rule = [(2, 1), (0, 2), (2, 1)]
        polynomial = refusing(TWO_OR_THREE, rule)
        self.assertEqual(rule, [(2, 1), (0, 2), (2, 1)])
        kept = list(polynomial)
        polynomial.append((5, 1))
        self.assertEqual(refusing(TWO_OR_THREE, rule), kept)
        wrong = [(2, 1), (0, 0), (0, 2)]
        with self.assertRaises(NoEnd):
            refusing(TWO_OR_THREE, wrong)
        self.assertEqual(wrong, [(2, 1), (0, 0), (0, 2)])


class Ratio(unittest.TestCase):
    def test_written_out(self):
        self.assertEqual(ratio((0, 0), (1, 3), (2, 3)), (1, 1))
        self.assertEqual(ratio((3, 1), (1, 3), (2, 3)), (4, 1))
        self.assertEqual(ratio((1, 3), (1, 3), (2, 3)), (1, 4))
        self.assertEqual(ratio((1, 0), (1, 10), (3, 10)), (3, 1))
        self.assertEqual(ratio((0, 1), (1, 10), (3, 10)), (7, 9))
        self.assertEqual(ratio((60, 60), (1, 3), (2, 3)), (1, 1))

    def test_worths_divided(self):
        for low, high in PAIRS:
            for bad in list(range(12)) + [60]:
                for good in list(range(12)) + [60]:
                    awaited = Fraction(*worth(of_count(bad, good), high)) / Fraction(*worth(of_count(bad, good), low))
                    self.assertEqual(ratio((bad, good), low, high), told(awaited))

    def test_shares_of_three_hundred_figures(self):
        source = random.Random(72)
        for count in ((0, 0), (1, 0), (5, 9), (60, 60)):
            low = frac(source.randint(1, LONG // 2), LONG)
            high = frac(source.randint(LONG // 2 + 1, LONG - 2), LONG - 1)
            bad, good = count
            awaited = (Fraction(*high) / Fraction(*low)) ** bad * ((1 - Fraction(*high)) / (1 - Fraction(*low))) ** good
            self.assertTrue(ratio(count, low, high) == told(awaited))

    def test_shares_that_are_none(self):
        for low, high in NO_PAIRS:
            for count in ((0, 0), (1, 0), (0, 1), (3, 4)):
                with self.assertRaises(NoShares):
                    ratio(count, low, high)


class RuleByRatio(unittest.TestCase):
    def check(self, plan, low, high, most):
        answer = rule_by_ratio(plan, low, high, most)
        self.assertIs(type(answer), tuple)
        self.assertEqual([type(part) for part in answer], [list, tuple, tuple, tuple])
        self.assertTrue(answer == plain_rule(plan, low, high, most), "not the rule awaited")
        return answer

    def test_written_out(self):
        self.assertEqual(rule_by_ratio(TWO_OR_THREE, (1, 3), (2, 3), (1, 4)),
                         ([(2, 0)], (2, 1), (1, 9), (4, 9)))
        self.assertEqual(rule_by_ratio(TWO_OR_THREE, (1, 3), (2, 3), (1, 3)),
                         ([(2, 0), (2, 1)], (1, 2), (7, 27), (20, 27)))

    def test_most_of_nought_and_of_one(self):
        for plan in SMALL + PLANS:
            for low, high in PAIRS:
                rule, first, wrong, caught = self.check(plan, low, high, (0, 1))
                self.assertEqual((rule, wrong, caught), ([], (0, 1), (0, 1)))
                greatest = max(Fraction(*ratio(end, low, high)) for end in plain_ends(plan))
                self.assertEqual(first, told(greatest))
                self.assertEqual(self.check(plan, low, high, (1, 1)), (plain_ends(plan), (0, 1), (1, 1), (1, 1)))

    def test_mosts_between(self):
        source = random.Random(73)
        for plan in SMALL + PLANS[::2]:
            for low, high in PAIRS:
                for most in mosts_for(plan, low, high, source):
                    rule, first, wrong, caught = self.check(plan, low, high, most)
                    polynomial = refusing(plan, rule)
                    self.assertEqual(worth(polynomial, low), wrong)
                    self.assertEqual(worth(polynomial, high), caught)
                    self.assertFalse(under(most, wrong))

    def test_no_refused_end_is_below_the_ratio_and_no_other_above(self):
        for plan in SMALL + PLANS[::3]:
            for most in ((1, 20), (1, 5), (3, 4)):
                rule, first, wrong, caught = rule_by_ratio(plan, (1, 5), (2, 5), most)
                for end in plain_ends(plan):
                    if end in rule:
                        self.assertFalse(under(ratio(end, (1, 5), (2, 5)), first))
                    else:
                        self.assertFalse(under(first, ratio(end, (1, 5), (2, 5))))

    def test_ends_with_the_same_ratio(self):
        low, high = (1, 3), (2, 3)
        self.assertEqual(rule_by_ratio(WITH_TIES, low, high, (2, 27)), ([], (2, 1), (0, 1), (0, 1)))
        self.assertEqual(rule_by_ratio(WITH_TIES, low, high, (1, 3)), ([(1, 0)], (2, 1), (1, 3), (2, 3)))
        self.assertEqual(rule_by_ratio(WITH_TIES, low, high, (11, 27)),
                         ([(1, 0), (2, 1)], (1, 2), (11, 27), (22, 27)))

    def test_none_behind_the_first_that_leads_beyond(self):
        # The first end left out is the likeliest one; one behind it would still have been within the most.
        plan = ((0,), (1,), (2,))
        self.assertEqual(rule_by_ratio(plan, (1, 3), (2, 3), (1, 10)),
                         ([(3, 0)], (2, 1), (1, 27), (8, 27)))
        self.assertEqual(rule_by_ratio(WITH_TIES, (1, 3), (2, 3), (1, 4)), ([], (2, 1), (0, 1), (0, 1)))

    def test_a_most_that_is_kept_just_so(self):
        self.assertEqual(rule_by_ratio(ONE_PLACE, (1, 3), (2, 3), (1, 3)), ([(1, 0)], (1, 2), (1, 3), (2, 3)))
        self.assertEqual(rule_by_ratio(ONE_PLACE, (1, 3), (2, 3), frac(10 ** 9 - 1, 3 * 10 ** 9)),
                         ([], (2, 1), (0, 1), (0, 1)))

    def test_no_set_of_ends_with_as_little_wrong_catches_more(self):
        for plan in SMALL[::2] + [WITH_TIES, WITH_GAPS]:
            for low, high in PAIRS[:3]:
                wrongs = plain_odds(plan, low)
                catches = plain_odds(plan, high)
                sets = [
                    (sum(wrongs[end] for end in some), sum(catches[end] for end in some))
                    for many in range(len(wrongs) + 1) for some in itertools.combinations(wrongs, many)
                ]
                for most in ((0, 1), (1, 9), (1, 3), (3, 5), (1, 1)):
                    rule, first, wrong, caught = rule_by_ratio(plan, low, high, most)
                    best = max(catch for often, catch in sets if often <= Fraction(*wrong))
                    self.assertEqual(told(best), caught)

    def test_shares_of_three_hundred_figures(self):
        source = random.Random(74)
        for plan in (ONE_PLACE, WITH_GAPS, GOOD_OF_24, BAD_OF_24, GAPS_OF_24, ALL_OF_24):
            low = frac(source.randint(1, LONG // 2), LONG)
            high = frac(source.randint(LONG // 2 + 1, LONG - 2), LONG - 1)
            self.check(plan, low, high, frac(source.randint(1, LONG - 1), LONG))

    def test_shares_and_mosts_that_are_none(self):
        for plan in (ONE_PLACE, WITH_GAPS, ALL_OF_24):
            for low, high in NO_PAIRS:
                for most in ((0, 1), (1, 2), (1, 1)) + NO_MOSTS:
                    with self.assertRaises(NoShares):
                        rule_by_ratio(plan, low, high, most)
            for most in NO_MOSTS:
                with self.assertRaises(NoShares):
                    rule_by_ratio(plan, (1, 3), (2, 3), most)

    def test_told_rules_are_the_askers_own(self):
        answer = rule_by_ratio(WITH_GAPS, (1, 5), (3, 5), (1, 2))
        kept = copy.deepcopy(answer)
        answer[0].append((9, 9))
        self.assertEqual(rule_by_ratio(WITH_GAPS, (1, 5), (3, 5), (1, 2)), kept)


if __name__ == "__main__":
    unittest.main()
