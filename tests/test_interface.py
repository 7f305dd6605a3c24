"""Holds the program to the names and arguments of the document's interface."""

import importlib
import inspect
import unittest

FUNCTIONS = {
    "fracs": """frac(top, bottom) plus(one, other) minus(one, other) times(one, other) over(one, other)
        power(one, many) under(one, other)""",
    "polys": """sum_of(one, other) less(one, other) product(one, other) scaled(one, share) worth(one, share)
        of_count(bad, good)""",
    "plans": "is_plan(thing) plan_from(counts) goes_on(plan, count) come_to(plan) ends(plan)",
    "words": """so_many(draws) till(bad, draws) two_steps(first, low, high, second)
        between(rise, run, below, above, draws)""",
    "texts": "show_plan(plan) read_plan(text)",
    "joins": "joined(plan, some, other) is_within(one, other)",
    "ways": "ways_to(plan, count) first_bad(plan, count)",
    "rows": "rows_of(plan) end_of(plan, row)",
    "odds": "odds(plan, end) mean_of(plan, numbers) mean_draws(plan) mean_bad(plan)",
    "lots": "lot_odds(plan, end, size, bad) lot_mean(plan, numbers, size, bad)",
    "tellings": "share_at(plan, end) shares(plan) averaged(plan, telling) left_within(plan, telling)",
    "only": "stretches(row) is_side_by_side(plan) standing_out(plan) nought_telling(plan)",
    "rules": "refusing(plan, rule) ratio(count, low, high) rule_by_ratio(plan, low, high, most)",
    "lotrules": "lot_rule(plan, size, low, high, most)",
    "shorter": "cut_short(plan, rule)",
    "search": "least_plan(low, low_most, high, high_most, bound)",
}


def parted(text):
    """Tuples (name, arguments) of functions written one behind another."""
    for part in text.split(")"):
        name, mark, arguments = part.strip().partition("(")
        if mark:
            yield name, arguments.split(", ")


class Interface(unittest.TestCase):
    def test_functions(self):
        for module, text in FUNCTIONS.items():
            there = importlib.import_module("lotdraw." + module)
            for name, arguments in parted(text):
                function = getattr(there, name)
                self.assertTrue(inspect.isfunction(function), name)
                self.assertEqual(list(inspect.signature(function).parameters), arguments, name)
                self.assertEqual(function.__module__, "lotdraw." + module)

    def test_desk(self):
        there = importlib.import_module("lotdraw.desk").Desk
        self.assertTrue(inspect.isclass(there))
        self.assertEqual(list(inspect.signature(there).parameters), [])
        self.assertEqual(list(inspect.signature(there().say).parameters), ["row"])


if __name__ == "__main__":
    unittest.main()
