"""The least plan of so many draws for two told risks."""

from lotdraw.errors import TooLong
from lotdraw.fracs import power, under
from lotdraw.plans import MOST_PLACES, ends
from lotdraw.rules import check_most, check_shares, often
from lotdraw.ways import ways_from
from lotdraw.words import so_many


def least_plan(low, low_most, high, high_most, bound):
    check_shares(low, high)
    check_most(low_most)
    check_most(high_most)
    if not 1 <= bound <= MOST_PLACES:
        raise TooLong("the bound is not from 1 to the most draws of a plan")
    for draws in range(1, bound + 1):
        low_tops = tops_by_bad(draws, low)
        high_tops = tops_by_bad(draws, high)
        for bad in range(draws + 1):
            is_seldom_wrong = keeps(low_tops[bad + 1:], draws, low, low_most)
            if is_seldom_wrong and keeps(high_tops[:bad + 1], draws, high, high_most):
                return (draws, bad)
    return None


# All odds after as many draws have the bottom of the share to that power, so their tops alone are added up.
def tops_by_bad(draws, share):
    plan = so_many(draws)
    ways = ways_from(plan, (0, 0))
    return [ways[end] * often(end, share)[0] for end in ends(plan)]


def keeps(tops, draws, share, most):
    return not under(most, (sum(tops), power(share, draws)[1]))
