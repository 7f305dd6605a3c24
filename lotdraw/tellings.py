"""What is told of the share of bad, at ends and at rows of draws."""

from lotdraw.errors import NoTelling
from lotdraw.fracs import frac, minus, over, plus, power
from lotdraw.plans import check_ends, ends
from lotdraw.polys import NOUGHT
from lotdraw.rows import end_of, rows_of
from lotdraw.ways import first_bad, ways_from, ways_to


def share_at(plan, end):
    check_ends(plan, [end])
    return frac(first_bad(plan, end), ways_to(plan, end))


def shares(plan):
    ways = ways_from(plan, (0, 0))
    ways_of_bad = ways_from(plan, (1, 0))
    return [frac(ways_of_bad.get(end, 0), ways[end]) for end in ends(plan)]


def averaged(plan, telling):
    return [over(sum_of_all(group), (len(group), 1)) for group in by_end(plan, telling)]


def left_within(plan, telling):
    return [left_in(group) for group in by_end(plan, telling)]


# The squares of the differences come to the squares less the square of the sum over their number.
def left_in(group):
    squares = sum_of_all([power(fraction, 2) for fraction in group])
    return minus(squares, over(power(sum_of_all(group), 2), (len(group), 1)))


def by_end(plan, telling):
    rows = rows_of(plan)
    if len(telling) != len(rows):
        raise NoTelling("there are not as many fractions as rows of draws")
    there = ends(plan)
    groups = {}
    for end in there:
        groups[end] = []
    for row, fraction in zip(rows, telling):
        groups[end_of(plan, row)].append(fraction)
    return [groups[end] for end in there]


def sum_of_all(fractions):
    total = NOUGHT
    for fraction in fractions:
        total = plus(total, fraction)
    return total
