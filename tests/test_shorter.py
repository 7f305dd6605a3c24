import copy
import itertools
import random
import unittest

from lotdraw.errors import NoEnd
from lotdraw.plans import is_plan
from lotdraw.rows import end_of
from lotdraw.rules import refusing
from lotdraw.shorter import cut_short
from lotdraw.words import so_many, two_steps
from some_plans import (
    ALL_OF_24, BAD_OF_24, GAPS_OF_24, GOOD_OF_24, ONE_PLACE, PLANS, SMALL, WITH_GAPS,
    by_order, plain_come_to, plain_ends, plain_on, plain_plan, plain_rows,
)

LONG = 10 ** 300 - 1


def ends_behind(plan):
    """For each count come to the ends that can still be come to from it."""
    on = plain_on(plan)
    behind = {}
    for bad, good in sorted(plain_come_to(on), key=sum, reverse=True):
        if (bad, good) in on:
            behind[bad, good] = behind[bad + 1, good] | behind[bad, good + 1]
        else:
            behind[bad, good] = {(bad, good)}
    return behind


def plain_cut(plan, rule):
    behind = ends_behind(plan)
    rule = set(rule)
    mixed = {count for count in plain_on(plan) if behind[count] & rule and behind[count] - rule}
    short = plain_plan(mixed | {(0, 0)})
    return (short, [end for end in plain_ends(short) if behind[end] <= rule])


def all_rules(plan):
    there = plain_ends(plan)
    return [list(rule) for many in range(len(there) + 1) for rule in itertools.combinations(there, many)]


def some_rules(plan, source):
    there = plain_ends(plan)
    told = [[], there, there[:1], there[-1:], [end for end in there if end[0] > end[1]]]
    told.extend([[end for end in there if end[0] >= least] for least in (1, 2, len(plan) // 3 + 1)])
    for turn in range(4):
        told.append(source.sample(there, source.randint(1, len(there))))
    return told


class CutShort(unittest.TestCase):
    def check(self, plan, rule):
        answer = cut_short(plan, rule)
        self.assertIs(type(answer), tuple)
        self.assertEqual([type(part) for part in answer], [tuple, list])
        self.assertTrue(is_plan(answer[0]))
        self.assertEqual(answer, plain_cut(plan, rule))
        self.assertEqual(answer[1], by_order(answer[1]))
        return answer

    def test_written_out(self):
        self.assertEqual(cut_short(so_many(3), [(2, 1), (3, 0)]), (((0,), (0, 1), (1,)), [(2, 0), (2, 1)]))
        self.assertEqual(cut_short(so_many(3), [(3, 0)]), (((0,), (1,), (2,)), [(3, 0)]))
        self.assertEqual(cut_short(so_many(3), [(0, 3)]), (((0,), (0,), (0,)), [(0, 3)]))
        self.assertEqual(cut_short(so_many(2), [(1, 1), (2, 0)]), (((0,), (0,)), [(1, 0), (1, 1)]))
        self.assertEqual(cut_short(two_steps(2, 0, 2, 1), [(2, 1), (2, 0)]),
                         (((0,), (0, 1), (1,)), [(2, 0), (2, 1)]))

    def test_none_and_all(self):
        for plan in SMALL + PLANS:
            self.assertEqual(self.check(plan, []), (ONE_PLACE, []))
            self.assertEqual(self.check(plan, plain_ends(plan)), (ONE_PLACE, [(0, 1), (1, 0)]))

    def test_all_rules_of_small_plans(self):
        for plan in SMALL + [WITH_GAPS]:
            for rule in all_rules(plan):
                self.check(plan, rule)

    def test_some_rules_of_long_plans(self):
        source = random.Random(41)
        for plan in PLANS:
            for rule in some_rules(plan, source):
                self.check(plan, rule)

    def test_whatever_order_and_some_several_times(self):
        source = random.Random(42)
        for plan in SMALL[::3] + PLANS[::3]:
            there = plain_ends(plan)
            rule = source.sample(there, source.randint(1, len(there)))
            again = rule + source.choices(rule, k=4)
            source.shuffle(again)
            self.assertEqual(self.check(plan, again), cut_short(plan, by_order(rule)))

    def test_the_odds_of_refusing_are_the_same(self):
        source = random.Random(43)
        for plan in SMALL + PLANS[::2]:
            for rule in some_rules(plan, source):
                short, short_rule = cut_short(plan, rule)
                self.assertTrue(refusing(short, short_rule) == refusing(plan, rule))

    def test_each_row_begins_with_one_of_the_short_plan_that_has_the_same_answer(self):
        source = random.Random(44)
        for plan in SMALL + [WITH_GAPS, GOOD_OF_24, BAD_OF_24, ALL_OF_24[:7], GAPS_OF_24[:8]]:
            on = plain_on(plan)
            rows = [(row, count) for row, count in plain_rows(plan) if count not in on]
            for rule in some_rules(plan, source):
                short, short_rule = cut_short(plan, rule)
                short_on = plain_on(short)
                ends_of = {row: count for row, count in plain_rows(short) if count not in short_on}
                for row, count in rows:
                    begins = [ends_of[row[:many]] for many in range(len(row) + 1) if row[:many] in ends_of]
                    self.assertEqual(len(begins), 1)
                    self.assertEqual(begins[0] in short_rule, count in rule)

    def test_cut_again_nothing_falls_away(self):
        source = random.Random(45)
        for plan in SMALL + PLANS[::4]:
            for rule in some_rules(plan, source):
                answer = cut_short(plan, rule)
                self.assertEqual(cut_short(*answer), answer)

    def test_nothing_is_drawn_at_any_end_of_the_short_plan(self):
        short, rule = cut_short(ALL_OF_24, [end for end in plain_ends(ALL_OF_24) if end[0] > 2])
        self.assertEqual(len(short), 24)
        self.assertEqual([end for end in plain_ends(short) if end[0] > 2], rule)
        self.assertEqual(end_of(short, "bbb"), (3, 0))
        self.assertEqual(end_of(short, "g" * 22), (0, 22))

    def test_counts_that_are_no_ends(self):
        for plan in SMALL[:30] + PLANS[:12]:
            there = plain_ends(plan)
            counts = [(bad, draws - bad) for draws in range(len(plan) + 2) for bad in range(draws + 1)]
            for count in counts + [(LONG, 0), (0, LONG)]:
                if count not in there:
                    for rule in ([count], there + [count], [there[0], count, there[-1]]):
                        with self.assertRaises(NoEnd):
                            cut_short(plan, rule)

    def test_what_is_handed_in_stays(self):
        plan = so_many(3)
        rule = [(3, 0), (2, 1), (3, 0)]
        answer = cut_short(plan, rule)
        self.assertEqual(rule, [(3, 0), (2, 1), (3, 0)])
        kept = copy.deepcopy(answer)
        answer[1].append((7, 7))
        self.assertEqual(cut_short(plan, rule), kept)
        wrong = [(3, 0), (0, 0)]
        with self.assertRaises(NoEnd):
            cut_short(plan, wrong)
        self.assertEqual(wrong, [(3, 0), (0, 0)])


if __name__ == "__main__":
    unittest.main()
