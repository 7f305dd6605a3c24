import math
import random
import unittest

from lotdraw.ways import first_bad, ways_to
from some_plans import (
    ALL_OF_24, BAD_OF_24, GAPS_OF_24, GOOD_OF_24, ONE_PLACE, PLANS, SMALL, WITH_GAPS,
    any_plan, plain_come_to, plain_on, plain_rows,
)

LONG = 10 ** 300 - 1


def counts_up_to(draws):
    return [(bad, many - bad) for many in range(draws + 1) for bad in range(many + 1)]


def thin_plans():
    """Plans of up to 24 draws whose rows are few enough to be gone through."""
    source = random.Random(71)
    told = [any_plan(source, places, 2) for places in range(1, 13) for turn in range(3)]
    told += [any_plan(source, places, 1) for places in range(13, 25) for turn in range(3)]
    return told + [GOOD_OF_24, BAD_OF_24, ALL_OF_24[:12], GAPS_OF_24[:13], WITH_GAPS, ONE_PLACE]


class Ways(unittest.TestCase):
    def check(self, plan, awaited, awaited_bad):
        for count in counts_up_to(len(plan) + 2):
            told = ways_to(plan, count)
            told_bad = first_bad(plan, count)
            self.assertIs(type(told), int)
            self.assertIs(type(told_bad), int)
            self.assertEqual(told, awaited.get(count, 0), (plan, count))
            self.assertEqual(told_bad, awaited_bad.get(count, 0), (plan, count))

    def check_by_rows(self, plan):
        rows = plain_rows(plan)
        awaited = {}
        awaited_bad = {}
        for row, count in rows:
            awaited[count] = awaited.get(count, 0) + 1
            awaited_bad[count] = awaited_bad.get(count, 0) + row.startswith("b")
        self.check(plan, awaited, awaited_bad)

    def test_written_out(self):
        plan = ((0,), (0, 1), (1,))
        for count, ways, bad in (
            ((0, 0), 1, 0), ((0, 1), 1, 0), ((1, 0), 1, 1), ((0, 2), 1, 0), ((1, 1), 2, 1), ((2, 0), 1, 1),
            ((1, 2), 2, 1), ((2, 1), 2, 1), ((0, 3), 0, 0), ((3, 0), 0, 0), ((2, 2), 0, 0),
        ):
            self.assertEqual(ways_to(plan, count), ways)
            self.assertEqual(first_bad(plan, count), bad)

    def test_the_first_counts_of_each_plan(self):
        for plan in SMALL + PLANS:
            self.assertEqual([ways_to(plan, count) for count in ((0, 0), (0, 1), (1, 0))], [1, 1, 1])
            self.assertEqual([first_bad(plan, count) for count in ((0, 0), (0, 1), (1, 0))], [0, 0, 1])

    def test_small_plans_by_all_rows(self):
        for plan in SMALL:
            self.check_by_rows(plan)

    def test_thin_plans_by_all_rows(self):
        for plan in thin_plans():
            self.check_by_rows(plan)

    def test_sums_over_the_counts_ahead(self):
        for plan in PLANS:
            on = plain_on(plan)
            awaited = {(0, 0): 1}
            awaited_bad = {(0, 0): 0}
            for bad, good in counts_up_to(24)[1:]:
                ahead = [count for count in ((bad - 1, good), (bad, good - 1)) if count in on]
                awaited[bad, good] = sum(awaited[count] for count in ahead)
                awaited_bad[bad, good] = sum(awaited_bad[count] for count in ahead)
                if (bad, good) == (1, 0):
                    awaited_bad[bad, good] = 1
            self.check(plan, awaited, awaited_bad)

    def test_all_rows_of_twenty_four_draws(self):
        for bad in range(25):
            self.assertEqual(ways_to(ALL_OF_24, (bad, 24 - bad)), math.comb(24, bad))
            self.assertEqual(first_bad(ALL_OF_24, (bad, 24 - bad)), math.comb(23, bad - 1) if bad else 0)
        for good in range(24):
            self.assertEqual(ways_to(GOOD_OF_24, (1, good)), 1)
            self.assertEqual(first_bad(GOOD_OF_24, (1, good)), int(good == 0))

    def test_counts_that_are_not_come_to(self):
        for plan in PLANS[:30]:
            there = plain_come_to(plain_on(plan))
            for count in counts_up_to(27) + [(LONG, 0), (0, LONG), (LONG, LONG), (1, LONG)]:
                if count in there:
                    self.assertGreater(ways_to(plan, count), 0)
                else:
                    self.assertEqual(ways_to(plan, count), 0)
                    self.assertEqual(first_bad(plan, count), 0)


if __name__ == "__main__":
    unittest.main()
