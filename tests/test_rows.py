import itertools
import unittest

from lotdraw.errors import NoRow, TooMany
from lotdraw.rows import end_of, rows_of
from lotdraw.ways import ways_to
from some_plans import (
    ALL_OF_24, BAD_OF_24, GAPS_OF_24, GOOD_OF_24, ONE_PLACE, PLANS, SMALL, WITH_GAPS,
    plain_ends, plain_on, plain_rows,
)


def many_rows(plan):
    return sum(ways_to(plan, end) for end in plain_ends(plan))


def of_so_many_rows(many):
    """A plan of so many rows. Each further count at which one draws on adds as many rows as lead to it."""
    plan = ALL_OF_24[:11]
    rows = 2 ** 11
    for draws in range(11, 24):
        place = []
        there = sorted(set(plan[-1]) | {bad + 1 for bad in plan[-1]})
        for bad in sorted(there, key=lambda bad: -ways_to(plan, (bad, draws - bad))):
            if rows + ways_to(plan, (bad, draws - bad)) <= many:
                rows += ways_to(plan, (bad, draws - bad))
                place.append(bad)
        if not place:
            break
        plan += (tuple(sorted(place)),)
    return plan


MOST = of_so_many_rows(4000)
ONE_MORE = of_so_many_rows(4001)


class RowsOf(unittest.TestCase):
    def check(self, plan):
        on = plain_on(plan)
        awaited = sorted(row for row, count in plain_rows(plan) if count not in on)
        told = rows_of(plan)
        self.assertIs(type(told), list)
        self.assertEqual({type(row) for row in told}, {str})
        self.assertEqual(told, awaited)
        for row, behind in zip(told, told[1:]):
            self.assertFalse(behind.startswith(row))

    def test_written_out(self):
        self.assertEqual(rows_of(ONE_PLACE), ["b", "g"])
        self.assertEqual(rows_of(((0,), (0, 1), (1,))), ["bb", "bgb", "bgg", "gbb", "gbg", "gg"])
        self.assertEqual(rows_of(((0,), (1,), (1,))), ["bb", "bgb", "bgg", "g"])

    def test_small_plans(self):
        for plan in SMALL:
            self.check(plan)

    def test_longer_plans(self):
        few = [plan for plan in PLANS if many_rows(plan) <= 4000]
        self.assertIn(24, [len(plan) for plan in few])
        for plan in few + [ALL_OF_24[:11], WITH_GAPS]:
            self.check(plan)

    def test_twenty_four_draws(self):
        self.assertEqual(rows_of(GOOD_OF_24), ["g" * good + "b" for good in range(24)] + ["g" * 24])
        self.assertEqual(rows_of(BAD_OF_24), ["b" * 24] + ["b" * bad + "g" for bad in range(23, -1, -1)])

    def test_so_many_and_no_more(self):
        self.assertEqual(many_rows(MOST), 4000)
        self.assertEqual(many_rows(ONE_MORE), 4001)
        self.assertEqual(len(rows_of(MOST)), 4000)
        self.check(MOST)
        with self.assertRaises(TooMany):
            rows_of(ONE_MORE)

    def test_far_too_many(self):
        for plan in [ALL_OF_24, ALL_OF_24[:12]] + [plan for plan in PLANS if many_rows(plan) > 4000]:
            with self.assertRaises(TooMany):
                rows_of(plan)

    def test_a_told_list_is_the_askers_own(self):
        for plan in (ONE_PLACE, WITH_GAPS, ALL_OF_24[:6]):
            told = rows_of(plan)
            kept = list(told)
            told[0] = "x"
            told.append("bbbb")
            told.reverse()
            self.assertEqual(rows_of(plan), kept)


class EndOf(unittest.TestCase):
    def refused(self, plan, row):
        with self.assertRaises(NoRow, msg=repr(row)):
            end_of(plan, row)

    def test_each_told_row(self):
        for plan in SMALL + [plan for plan in PLANS if many_rows(plan) <= 500]:
            there = plain_ends(plan)
            for row in rows_of(plan):
                told = end_of(plan, row)
                self.assertIs(type(told), tuple)
                self.assertEqual([type(part) for part in told], [int, int])
                self.assertEqual(told, (row.count("b"), row.count("g")))
                self.assertIn(told, there)

    def test_all_short_texts(self):
        for plan in SMALL:
            rows = set(rows_of(plan))
            for length in range(6):
                for signs in itertools.product("bg", repeat=length):
                    row = "".join(signs)
                    if row in rows:
                        self.assertEqual(end_of(plan, row), (row.count("b"), row.count("g")))
                    else:
                        self.refused(plan, row)

    def test_too_short_and_too_long(self):
        for plan in (ONE_PLACE, WITH_GAPS, ALL_OF_24[:8], GOOD_OF_24, BAD_OF_24):
            self.refused(plan, "")
            for row in rows_of(plan):
                for many in range(len(row)):
                    self.refused(plan, row[:many])
                for more in ("b", "g", "bg", "x", " ", row):
                    self.refused(plan, row + more)

    def test_other_signs(self):
        for plan in (ONE_PLACE, WITH_GAPS):
            for row in rows_of(plan):
                for at in range(len(row)):
                    for sign in ("B", "G", "x", " ", "0", "1", "|", "~", "\n", "bad"):
                        self.refused(plan, row[:at] + sign + row[at + 1:])
                        self.refused(plan, row[:at] + sign + row[at:])
                self.refused(plan, " " + row)
                self.refused(plan, row + " ")

    def test_twenty_four_draws(self):
        self.assertEqual(end_of(ALL_OF_24, "bg" * 12), (12, 12))
        self.assertEqual(end_of(ALL_OF_24, "b" * 24), (24, 0))
        self.assertEqual(end_of(ALL_OF_24, "g" * 24), (0, 24))
        self.refused(ALL_OF_24, "bg" * 11 + "b")
        self.refused(ALL_OF_24, "bg" * 12 + "b")
        self.refused(ALL_OF_24, "b" * 3000)

    def test_of_plans_with_too_many_rows(self):
        for plan in (ONE_MORE, GAPS_OF_24):
            row = ""
            while (row.count("b"), row.count("g")) in plain_on(plan):
                self.refused(plan, row)
                row += "g"
            self.assertEqual(end_of(plan, row), (0, len(row)))


if __name__ == "__main__":
    unittest.main()
