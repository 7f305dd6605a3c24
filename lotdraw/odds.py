"""Odds of ends, and means over them, as polynomials in the share of bad."""

from lotdraw.errors import NoTelling
from lotdraw.fracs import frac
from lotdraw.plans import check_ends, ends
from lotdraw.polys import common_bottom, of_count, scaled, tops_over, trimmed
from lotdraw.ways import ways_from, ways_to


def odds(plan, end):
    check_ends(plan, [end])
    return scaled(of_count(end[0], end[1]), (ways_to(plan, end), 1))


# Over one bottom the numbers are added up whole, and each sum is brought to lowest terms once.
def mean_of(plan, numbers):
    check_telling(plan, numbers)
    ways = ways_from(plan, (0, 0))
    bottom = common_bottom(numbers)
    totals = [0] * (len(plan) + 1)
    for end, top in zip(ends(plan), tops_over(numbers, bottom)):
        for place, fraction in enumerate(of_count(end[0], end[1])):
            totals[place] += top * ways[end] * fraction[0]
    return trimmed([frac(total, bottom) for total in totals])


def mean_draws(plan):
    return mean_of(plan, [(bad + good, 1) for bad, good in ends(plan)])


def mean_bad(plan):
    return mean_of(plan, [(bad, 1) for bad, good in ends(plan)])


def check_telling(plan, numbers):
    if len(numbers) != len(ends(plan)):
        raise NoTelling("there are not as many numbers as ends")
