import itertools
import random
import unittest

from lotdraw.errors import NoEnd, TooLong
from lotdraw.joins import is_within, joined
from lotdraw.plans import is_plan
from some_plans import (
    ALL_OF_24, BAD_OF_24, GAPS_OF_24, GOOD_OF_24, ONE_PLACE, PLANS, SMALL, WITH_GAPS,
    all_plans, any_plan, plain_ends, plain_on, plain_plan,
)

LONG = 10 ** 300 - 1
TWO = ((0,), (0, 1))


def plain_joined(plan, some, other):
    on = plain_on(plan)
    for bad, good in some:
        on |= {(bad + more_bad, good + more_good) for more_bad, more_good in plain_on(other)}
    return plain_plan(on)


class Joined(unittest.TestCase):
    def check(self, plan, some, other):
        handed = list(some)
        told = joined(plan, handed, other)
        self.assertEqual(handed, list(some))
        self.assertIs(is_plan(told), True)
        self.assertEqual(told, plain_joined(plan, some, other))

    def test_written_out(self):
        self.assertEqual(joined(ONE_PLACE, [(1, 0)], ONE_PLACE), ((0,), (1,)))
        self.assertEqual(joined(ONE_PLACE, [(0, 1), (1, 0)], ONE_PLACE), TWO)
        self.assertEqual(joined(ONE_PLACE, [(0, 1)], ((0,), (1,))), ((0,), (0,), (1,)))
        self.assertEqual(joined(ONE_PLACE, [(1, 0)], ((0,), (1,))), ((0,), (1,), (2,)))

    def test_at_no_end(self):
        for plan in SMALL + PLANS:
            self.assertEqual(joined(plan, [], ALL_OF_24), plan)

    def test_at_all_sets_of_ends(self):
        for plan in all_plans(3):
            there = plain_ends(plan)
            for many in range(len(there) + 1):
                for some in itertools.combinations(there, many):
                    for other in (ONE_PLACE, TWO, ((0,), (1,)), ((0,), (0, 1), (0, 2))):
                        self.check(plan, some, other)

    def test_all_small_plans_at_one_end_and_at_all(self):
        for plan, other in itertools.product(all_plans(3), repeat=2):
            there = plain_ends(plan)
            self.check(plan, there[:1], other)
            self.check(plan, there[-1:], other)
            self.check(plan, there, other)

    def test_in_whatever_order_and_several_times(self):
        source = random.Random(61)
        for turn in range(100):
            plan = any_plan(source, source.randint(1, 12))
            other = any_plan(source, source.randint(1, 12))
            some = [source.choice(plain_ends(plan)) for many in range(source.randint(0, 12))]
            self.check(plan, some, other)
            self.assertEqual(joined(plan, some * 3, other), joined(plan, sorted(set(some)), other))
            self.assertEqual(joined(plan, some[::-1], other), joined(plan, some, other))

    def test_a_shifted_count_falls_on_an_end_that_was_not_told(self):
        plan = ((0,), (0,))
        self.assertEqual(plain_ends(plan), [(1, 0), (0, 2), (1, 1)])
        self.assertEqual(joined(plan, [(1, 0)], TWO), ((0,), (0, 1), (1, 2)))
        self.assertEqual(joined(plan, [(1, 0)], ((0,), (0,))), ((0,), (0, 1), (1,)))

    def test_a_shifted_count_falls_where_the_first_draws_on(self):
        plan = ((0,), (0,), (1,))
        self.assertEqual(joined(plan, [(1, 0)], ((0,), (0,), (0,))), ((0,), (0, 1), (1,), (1,)))

    def test_counts_that_are_no_ends(self):
        for plan in (ONE_PLACE, WITH_GAPS, ALL_OF_24):
            there = plain_ends(plan)
            for count in [(0, 0), (0, 25), (25, 0), (13, 12), (LONG, 0), (0, LONG)] + sorted(plain_on(plan)):
                for some in ([count], there + [count], [count] + there, [there[0], count, there[0]]):
                    kept = list(some)
                    with self.assertRaises(NoEnd):
                        joined(plan, some, ONE_PLACE)
                    self.assertEqual(some, kept)

    def test_an_end_of_the_second_alone_is_none(self):
        with self.assertRaises(NoEnd):
            joined(ONE_PLACE, [(0, 2)], TWO)

    def test_too_long(self):
        for plan, some, other in (
            (ALL_OF_24, [(0, 24)], ONE_PLACE), (ALL_OF_24, [(24, 0), (12, 12)], ALL_OF_24),
            (ONE_PLACE, [(0, 1)], GOOD_OF_24), (ONE_PLACE, [(1, 0)], BAD_OF_24),
            (GAPS_OF_24, plain_ends(GAPS_OF_24), TWO), (GOOD_OF_24, [(1, 23)], ONE_PLACE),
            (BAD_OF_24[:12], [(12, 0)], ALL_OF_24[:13]),
        ):
            kept = list(some)
            with self.assertRaises(TooLong):
                joined(plan, some, other)
            self.assertEqual(some, kept)

    def test_just_not_too_long(self):
        self.assertEqual(joined(GOOD_OF_24[:23], [(0, 23)], ONE_PLACE), GOOD_OF_24)
        self.assertEqual(joined(BAD_OF_24[:12], [(12, 0)], BAD_OF_24[:12]), BAD_OF_24)
        self.assertEqual(joined(GOOD_OF_24, [(1, 0)], GOOD_OF_24[:23])[-1], (0, 1))
        some = [(bad, 12 - bad) for bad in range(13)]
        self.assertEqual(joined(ALL_OF_24[:12], some, ALL_OF_24[:12]), ALL_OF_24)

    def test_no_end_comes_ahead_of_too_long(self):
        for some in ([(0, 24), (0, 0)], [(0, 0), (0, 24)], [(0, 25)], [(0, 24), (0, 25)]):
            with self.assertRaises(NoEnd):
                joined(ALL_OF_24, some, ONE_PLACE)


class Within(unittest.TestCase):
    def test_within_itself(self):
        for plan in SMALL + PLANS:
            self.assertIs(is_within(plan, plan), True)

    def test_all_pairs(self):
        for one, other in itertools.product(SMALL[:60] + PLANS[:20], repeat=2):
            self.assertIs(is_within(one, other), plain_on(one) <= plain_on(other))

    def test_longer_and_shorter(self):
        for plan in PLANS:
            for places in range(1, len(plan)):
                self.assertIs(is_within(plan[:places], plan), True)
                self.assertIs(is_within(plan, plan[:places]), False)
            self.assertIs(is_within(plan, ALL_OF_24), True)
            self.assertIs(is_within(ONE_PLACE, plan), True)

    def test_neither_way(self):
        self.assertIs(is_within(GOOD_OF_24, BAD_OF_24), False)
        self.assertIs(is_within(BAD_OF_24, GOOD_OF_24), False)
        self.assertIs(is_within(((0,), (0,)), ((0,), (1,), (1,))), False)
        self.assertIs(is_within(((0,), (1,), (1,)), ((0,), (0,))), False)

    def test_as_long_but_wider(self):
        self.assertIs(is_within(((0,), (1,)), TWO), True)
        self.assertIs(is_within(TWO, ((0,), (1,))), False)


if __name__ == "__main__":
    unittest.main()
