"""Odds of ends and means in a lot, whose pieces are not put back, as fractions."""

from lotdraw.errors import NoLot
from lotdraw.fracs import frac
from lotdraw.odds import check_telling
from lotdraw.plans import check_ends, ends
from lotdraw.polys import common_bottom, tops_over
from lotdraw.ways import ways_from, ways_to

MOST_PIECES = 200


def lot_odds(plan, end, size, bad):
    check_lot(plan, size, bad)
    check_ends(plan, [end])
    return frac(ways_to(plan, end) * choices(end, size, bad), falling(size, end[0] + end[1]))


# All odds are brought to the bottom of the longest rows, so that they are added up as whole numbers.
def lot_mean(plan, numbers, size, bad):
    check_lot(plan, size, bad)
    check_telling(plan, numbers)
    ways = ways_from(plan, (0, 0))
    bottom = common_bottom(numbers)
    total = 0
    for end, top in zip(ends(plan), tops_over(numbers, bottom)):
        draws = end[0] + end[1]
        total += top * ways[end] * choices(end, size, bad) * falling(size - draws, len(plan) - draws)
    return frac(total, bottom * falling(size, len(plan)))


def check_lot(plan, size, bad):
    check_size(plan, size)
    if not 0 <= bad <= size:
        raise NoLot("the lot can't have so many bad pieces")


def check_size(plan, size):
    if not len(plan) <= size <= MOST_PIECES:
        raise NoLot("the lot has too few or too many pieces")


def choices(count, size, bad):
    return falling(bad, count[0]) * falling(size - bad, count[1])


# Where there are fewer than many, a nought is among the factors.
def falling(number, many):
    told = 1
    for step in range(many):
        told = told * (number - step)
    return told
