import itertools
import unittest

from lotdraw.errors import NoPlan
from lotdraw.plans import is_plan
from lotdraw.words import between, so_many, till, two_steps
from some_plans import ALL_OF_24, BAD_OF_24, GOOD_OF_24, ONE_PLACE, plain_plan

LONG = 10 ** 299
COUNTS = [(bad, good) for bad in range(25) for good in range(25)]


class WordCase(unittest.TestCase):
    def check(self, told, draws_on):
        """Against the plan that draws on where the told words are so, bad and draws being handed over."""
        self.assertIs(is_plan(told), True)
        self.assertEqual(told, plain_plan([(bad, good) for bad, good in COUNTS if draws_on(bad, bad + good)]))

    def refused(self, tell, *numbers):
        with self.assertRaises(NoPlan):
            tell(*numbers)


class SoMany(WordCase):
    def test_all(self):
        for draws in range(1, 25):
            self.check(so_many(draws), lambda found, drawn: drawn < draws)

    def test_written_out(self):
        self.assertEqual(so_many(1), ONE_PLACE)
        self.assertEqual(so_many(3), ((0,), (0, 1), (0, 1, 2)))
        self.assertEqual(so_many(24), ALL_OF_24)

    def test_beyond(self):
        for draws in (0, -1, -24, 25, 26, LONG, -LONG):
            self.refused(so_many, draws)


class Till(WordCase):
    def test_all(self):
        for bad, draws in itertools.product(range(1, 25), repeat=2):
            if (bad + draws) % 5 == 0 or bad in (1, 2, 23, 24) or draws in (1, 24):
                self.check(till(bad, draws), lambda found, drawn: found < bad and drawn < draws)

    def test_written_out(self):
        self.assertEqual(till(1, 1), ONE_PLACE)
        self.assertEqual(till(1, 24), GOOD_OF_24)
        self.assertEqual(till(2, 4), ((0,), (0, 1), (0, 1), (0, 1)))
        self.assertEqual(till(24, 24), ALL_OF_24)
        self.assertEqual(till(24, 1), ONE_PLACE)

    def test_beyond(self):
        for beyond in (0, -1, 25, LONG, -LONG):
            for within in (1, 12, 24):
                self.refused(till, beyond, within)
                self.refused(till, within, beyond)
            self.refused(till, beyond, beyond)


class TwoSteps(WordCase):
    def check_steps(self, first, low, high, second):
        def draws_on(found, drawn):
            middle = drawn == first and found > low and found < high
            return drawn < first or middle or (first < drawn and drawn < first + second)

        self.check(two_steps(first, low, high, second), draws_on)

    def test_small_ones(self):
        for first, second in itertools.product(range(1, 5), repeat=2):
            for low in range(-1, 6):
                for high in range(low + 1, 8):
                    self.check_steps(first, low, high, second)

    def test_twenty_four_draws_together(self):
        for first in (1, 2, 12, 22, 23):
            for low, high in ((-1, 0), (-1, 25), (0, 2), (1, 2), (5, 9), (22, 24), (30, 31)):
                self.check_steps(first, low, high, 24 - first)

    def test_written_out(self):
        self.assertEqual(two_steps(2, 0, 2, 2), ((0,), (0, 1), (1,), (1, 2)))
        self.assertEqual(two_steps(1, -1, 1, 1), ((0,), (0,)))
        self.assertEqual(two_steps(3, -1, 2, 1), ((0,), (0, 1), (0, 1, 2), (0, 1)))

    def test_nothing_in_the_middle(self):
        for low, high in ((-1, 0), (0, 1), (1, 2), (3, 4), (3, 99), (LONG, LONG + 1), (LONG, 10 * LONG - 1)):
            self.assertEqual(two_steps(3, low, high, 21), so_many(3))

    def test_all_in_the_middle(self):
        for high in (4, 5, 25, LONG):
            self.assertEqual(two_steps(3, -1, high, 21), ALL_OF_24)

    def test_beyond(self):
        for numbers in (
            (0, 0, 2, 3), (-1, 0, 2, 3), (-LONG, 0, 2, 3), (2, 0, 2, 0), (2, 0, 2, -1), (2, 0, 2, -LONG),
            (24, 0, 2, 1), (1, 0, 2, 24), (12, 0, 2, 13), (25, 0, 2, 1), (LONG, 0, 2, 1), (2, 0, 2, LONG),
            (30, 0, 2, -10), (-10, 0, 2, 30), (24, 0, 2, 0), (0, 0, 2, 24),
            (2, -2, 2, 3), (2, -LONG, 2, 3), (2, 0, 0, 3), (2, -1, -1, 3), (2, 1, 0, 3), (2, 5, 2, 3),
            (2, LONG, LONG, 3), (2, LONG, LONG - 1, 3), (2, LONG, -LONG, 3), (2, -1, -2, 3), (2, -2, -1, 3),
        ):
            self.refused(two_steps, *numbers)


class Between(WordCase):
    def check_between(self, rise, run, below, above, draws):
        def draws_on(found, drawn):
            height = run * found - rise * drawn
            return drawn < draws and height > -below and height < above

        self.check(between(rise, run, below, above, draws), draws_on)

    def test_small_ones(self):
        for rise, run, below, above in itertools.product((0, 1, 2, 3), (1, 2, 5), (1, 2, 4), (1, 2, 3)):
            for draws in (1, 2, 3, 6):
                self.check_between(rise, run, below, above, draws)

    def test_longest_ones(self):
        for numbers in (
            (0, 1, 1, 1), (0, 1, 1, 25), (1, 2, 3, 3), (1, 5, 9, 7), (7, 3, 1, 40), (3, 4, 2, 2),
        ):
            self.check_between(*numbers, 24)
            self.check_between(*numbers, 23)

    def test_written_out(self):
        self.assertEqual(between(1, 2, 2, 2, 4), ((0,), (0, 1), (1,), (1, 2)))
        self.assertEqual(between(0, 1, 1, 1, 24), GOOD_OF_24)
        self.assertEqual(between(1, 1, 1, 1, 24), BAD_OF_24)
        self.assertEqual(between(0, 1, 1, 24, 24), ALL_OF_24)
        self.assertEqual(between(1, 1, 1, 1, 1), ONE_PLACE)

    def test_each_side_stops_by_itself(self):
        self.assertEqual(between(1, 2, 2, 1, 4), ((0,), (0,), (1,), (1,)))
        self.assertEqual(between(1, 2, 1, 2, 4), ((0,), (1,), (1,), (2,)))
        self.assertEqual(between(1, 2, 1, 1, 4), ((0,),))

    def test_long_numbers(self):
        self.assertEqual(between(LONG, 2 * LONG, 2 * LONG, 2 * LONG, 4), between(1, 2, 2, 2, 4))
        self.assertEqual(between(0, LONG, 1, LONG, 24), GOOD_OF_24)
        self.assertEqual(between(0, LONG, 1, LONG + 1, 2), ((0,), (0, 1)))
        self.assertEqual(between(0, 1, LONG, LONG, 24), ALL_OF_24)
        self.assertEqual(between(LONG, 1, LONG, 1, 24), ((0,), (1,)))
        self.assertEqual(between(LONG, 1, LONG + 1, 1, 24), ((0,), (0, 1)))

    def test_beyond(self):
        within = (1, 2, 3, 3, 5)
        low = (0, -1, -LONG)
        for at, beyond_it in enumerate(((-1, -LONG), low, low, low, low + (25, LONG))):
            for beyond in beyond_it:
                self.refused(between, *within[:at], beyond, *within[at + 1:])
        self.refused(between, -1, 0, 0, 0, 0)

    def test_at_the_bounds(self):
        for draws in (1, 24):
            for numbers in ((0, 1, 1, 1), (0, 1, LONG, LONG), (0, LONG, 1, 1)):
                self.assertIs(is_plan(between(*numbers, draws)), True)


if __name__ == "__main__":
    unittest.main()
