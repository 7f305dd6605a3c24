"""The promise over the whole program, for plans of all the kinds that it makes."""

import copy
import itertools
import math
import random
import unittest

from lotdraw.desk import Desk
from lotdraw.errors import LotError
from lotdraw.fracs import frac, minus, plus, power, times, under
from lotdraw.joins import joined
from lotdraw.lotrules import lot_rule
from lotdraw.lots import lot_mean, lot_odds
from lotdraw.odds import mean_bad, mean_draws, mean_of, odds
from lotdraw.only import is_side_by_side, nought_telling, standing_out, stretches
from lotdraw.plans import come_to, ends, goes_on, is_plan, plan_from
from lotdraw.polys import of_count, product, scaled, sum_of, worth
from lotdraw.rows import end_of, rows_of
from lotdraw.rules import ratio, refusing, rule_by_ratio
from lotdraw.search import least_plan
from lotdraw.shorter import cut_short
from lotdraw.tellings import averaged, left_within, share_at, shares
from lotdraw.texts import read_plan, show_plan
from lotdraw.ways import first_bad, ways_to
from lotdraw.words import between, so_many, till, two_steps

X = [(0, 1), (1, 1)]
ONE = [(1, 1)]
LOW, HIGH = (1, 5), (1, 2)
MADE = [
    so_many(1), so_many(6), till(2, 8), two_steps(3, 0, 3, 3), two_steps(2, -1, 1, 4), between(1, 3, 3, 4, 9),
    joined(so_many(2), [(1, 1)], so_many(3)), joined(till(1, 3), [(0, 3), (1, 0)], till(2, 5)),
    joined(so_many(3), [(0, 3), (2, 1)], so_many(2)), read_plan("0|0 1|0 2|1 3"),
    plan_from([(0, 0), (1, 0), (2, 0), (0, 1), (0, 2), (0, 3), (3, 0), (2, 1), (9, 9)]),
]
LONG_MADE = [so_many(24), till(3, 24), two_steps(12, 1, 6, 12), between(1, 4, 5, 6, 24),
             joined(so_many(8), [(1, 7), (4, 4), (7, 1)], till(3, 16))]


def total_of(polynomials):
    total = []
    for polynomial in polynomials:
        total = sum_of(total, polynomial)
    return total


class Promise(unittest.TestCase):
    def test_ways_odds_and_means(self):
        for plan in MADE + LONG_MADE:
            self.assertTrue(is_plan(plan))
            self.assertEqual(read_plan(show_plan(plan)), plan)
            there = ends(plan)
            self.assertEqual(total_of([odds(plan, end) for end in there]), ONE)
            self.assertEqual(mean_bad(plan), product(X, mean_draws(plan)))
        for plan in MADE:
            led = [end_of(plan, row) for row in rows_of(plan)]
            self.assertEqual([ways_to(plan, end) for end in ends(plan)], [led.count(end) for end in ends(plan)])

    def test_lots(self):
        for plan in MADE + LONG_MADE:
            size = len(plan) + 3
            there = ends(plan)
            for bad in (0, 2, size // 2, size):
                total = (0, 1)
                for end in there:
                    total = plus(total, lot_odds(plan, end, size, bad))
                self.assertEqual(total, (1, 1))
                self.assertEqual(lot_mean(plan, shares(plan), size, bad), frac(bad, size))
                found = frac(bad, size)
                on = [count for count in come_to(plan) if goes_on(plan, count)]
                for count in on[1:]:
                    # Where one draws on is an end of the plan that stops there, and come to as often.
                    stopped = plan_from([other for other in on if other != count])
                    often = lot_odds(stopped, count, size, bad)
                    found = plus(found, times(often, frac(bad - count[0], size - sum(count))))
                self.assertEqual(lot_mean(plan, [(end[0], 1) for end in there], size, bad), found)

    def test_lots_put_together(self):
        for plan in MADE:
            size = len(plan) + 2
            for end in ends(plan):
                parts = [
                    scaled(of_count(bad, size - bad), times((math.comb(size, bad), 1), lot_odds(plan, end, size, bad)))
                    for bad in range(size + 1)
                ]
                self.assertEqual(total_of(parts), odds(plan, end))

    def test_only_or_others(self):
        kinds = {True: 0, False: 0}
        for plan in MADE + LONG_MADE:
            there = ends(plan)
            self.assertEqual(mean_of(plan, shares(plan)), X)
            self.assertEqual(len(there), 1 + sum(len(stretches(place)) for place in plan))
            kinds[is_side_by_side(plan)] += 1
            if is_side_by_side(plan):
                order = standing_out(plan)
                self.assertEqual(sorted(end for end, side in order), sorted(there))
                for at, (end, side) in enumerate(order):
                    which = ("bad", "good").index(side)
                    self.assertTrue(all(other[which] > end[which] for other, later in order[at + 1:]))
            else:
                weights = nought_telling(plan)
                self.assertEqual(mean_of(plan, weights), [])
                other = [plus(share, weight) for share, weight in zip(shares(plan), weights)]
                self.assertNotEqual(other, shares(plan))
                self.assertEqual(mean_of(plan, other), X)
        self.assertGreater(min(kinds.values()), 2)

    def test_tellings_at_rows(self):
        for plan in MADE:
            rows = rows_of(plan)
            telling = [(1, 1) if row[-1] == "b" else (0, 1) for row in rows]
            means = averaged(plan, telling)
            parts = [scaled(of_count(*end_of(plan, row)), part) for row, part in zip(rows, telling)]
            self.assertEqual(mean_of(plan, means), total_of(parts))
            squares = [scaled(of_count(*end_of(plan, row)), power(part, 2)) for row, part in zip(rows, telling)]
            within = [scaled(of_count(*end), left) for end, left in zip(ends(plan), left_within(plan, telling))]
            self.assertEqual(total_of(squares), total_of(within + [mean_of(plan, [power(mean, 2) for mean in means])]))
            first = [(1, 1) if row[0] == "b" else (0, 1) for row in rows]
            self.assertEqual(averaged(plan, first), shares(plan))

    def test_rules_and_plans_cut_short(self):
        for plan in MADE + LONG_MADE:
            for most in ((0, 1), (1, 20), (1, 3), (1, 1)):
                rule, first, wrong, caught = rule_by_ratio(plan, LOW, HIGH, most)
                for end in ends(plan):
                    if end in rule:
                        self.assertFalse(under(ratio(end, LOW, HIGH), first))
                    else:
                        self.assertFalse(under(first, ratio(end, LOW, HIGH)))
                short, short_rule = cut_short(plan, rule)
                self.assertEqual(refusing(short, short_rule), refusing(plan, rule))
                self.assertEqual(worth(refusing(short, short_rule), LOW), wrong)
                self.assertEqual(worth(refusing(short, short_rule), HIGH), caught)
        for plan in MADE:
            rule = rule_by_ratio(plan, LOW, HIGH, (1, 5))[0]
            short, short_rule = cut_short(plan, rule)
            short_rows = set(rows_of(short))
            for row in rows_of(plan):
                begins = [row[:many] for many in range(1, len(row) + 1) if row[:many] in short_rows]
                self.assertEqual(len(begins), 1)
                self.assertEqual(end_of(short, begins[0]) in short_rule, end_of(plan, row) in rule)

    def test_no_set_of_ends_catches_more_with_as_little_wrong(self):
        for plan in MADE:
            there = ends(plan)
            if len(there) <= 8:
                sets = [list(some) for many in range(len(there) + 1) for some in itertools.combinations(there, many)]
                rule, first, wrong, caught = rule_by_ratio(plan, LOW, HIGH, (1, 4))
                for some in sets:
                    polynomial = refusing(plan, some)
                    if not under(wrong, worth(polynomial, LOW)):
                        self.assertFalse(under(caught, worth(polynomial, HIGH)))

    def test_the_least_plan_keeps_both_risks_and_no_lesser_one_does(self):
        for low_most, high_most in (((1, 10), (1, 5)), ((1, 4), (1, 20)), ((1, 2), (1, 2))):
            told = least_plan(LOW, low_most, HIGH, high_most, 24)
            for draws in range(1, told[0] + 1):
                for bad in range(draws + 1):
                    rule = [(found, draws - found) for found in range(bad + 1, draws + 1)]
                    polynomial = refusing(so_many(draws), rule)
                    is_kept = not under(low_most, worth(polynomial, LOW))
                    is_kept = is_kept and not under(high_most, minus((1, 1), worth(polynomial, HIGH)))
                    if (draws, bad) <= told:
                        self.assertEqual(is_kept, (draws, bad) == told)


class Everywhere(unittest.TestCase):
    def test_what_is_handed_in_stays_and_what_is_told_is_new(self):
        plan = so_many(3)
        telling = [(place, 7) for place in range(1, 5)]
        at_rows = [(1, place) for place in range(1, 9)]
        calls = (
            (come_to, (plan,)), (ends, (plan,)), (rows_of, (plan,)), (odds, (plan, (1, 2))), (mean_of, (plan, telling)),
            (mean_draws, (plan,)), (mean_bad, (plan,)), (shares, (plan,)), (averaged, (plan, at_rows)),
            (left_within, (plan, at_rows)), (stretches, ((1, 2, 5),)), (standing_out, (plan,)),
            (nought_telling, (((0,), (0, 1), (0, 2)),)), (refusing, (plan, [(2, 1), (1, 2), (2, 1)])),
            (sum_of, (X, ONE)), (product, (X, X)), (scaled, (X, (1, 2))), (of_count, (1, 2)),
        )
        for function, handed in calls:
            kept = copy.deepcopy(handed)
            told = function(*handed)
            awaited = copy.deepcopy(told)
            self.assertEqual(handed, kept)
            self.assertFalse(any(told is thing for thing in handed))
            told.reverse()
            told.append("more")
            self.assertEqual(function(*handed), awaited, function.__name__)

    def test_rules_told_are_new(self):
        plan = so_many(3)
        for function, handed in (
            (rule_by_ratio, (plan, LOW, HIGH, (1, 3))), (lot_rule, (plan, 9, 2, 5, (1, 3))),
            (cut_short, (plan, [(3, 0), (2, 1)])),
        ):
            kept = copy.deepcopy(handed)
            told = function(*handed)
            awaited = copy.deepcopy(told)
            self.assertEqual(handed, kept)
            for part in told:
                if isinstance(part, list):
                    part.clear()
            self.assertEqual(function(*handed), awaited, function.__name__)

    def test_desks_stay_as_they_are_where_they_refuse(self):
        source = random.Random(17)
        words = "plan show ends ways odds mean share judge rule lot bad good at".split()
        words += "a b many till hand 0|1 1 2 1/2 0 -1 A".split()
        one = Desk()
        other = Desk()
        refused = 0
        for turn in range(4000):
            row = " ".join(source.choices(words, k=source.randint(1, 5)))
            if source.random() < 0.4:
                row = source.choice((
                    "plan a many 3", "plan b hand 0|1", "plan a hand 0||1", "plan b many 25", "lot a b", "lot b a",
                    "bad a", "good b", "bad b", "share a 1 2", "odds b 0 1 1/2", "rule a 1/2 1/2 0", "show a", "at b",
                ))
            try:
                told = one.say(row)
            except LotError:
                # The other desk is never told what the first one refuses.
                refused += 1
            else:
                self.assertEqual(other.say(row), told)
        self.assertGreater(refused, 500)

    def test_questions_change_nothing(self):
        plan = two_steps(2, 0, 2, 1)
        asked = [share_at(plan, end) for end in ends(plan)], [first_bad(plan, end) for end in ends(plan)]
        for turn in range(2):
            again = [share_at(plan, end) for end in ends(plan)], [first_bad(plan, end) for end in ends(plan)]
            self.assertEqual(again, asked)


if __name__ == "__main__":
    unittest.main()
