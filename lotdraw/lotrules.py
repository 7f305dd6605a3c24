"""The rule of refusing that catches most in a lot, whose pieces are not put back."""

from lotdraw.errors import NoShares
from lotdraw.fracs import over
from lotdraw.lots import check_size, lot_odds
from lotdraw.plans import ends
from lotdraw.polys import NOUGHT
from lotdraw.rules import by_falling_ratio, check_most, taken


def lot_rule(plan, size, low, high, most):
    check_size(plan, size)
    if not 0 <= low < high <= size:
        raise NoShares("the numbers of bad are not from 0 to the size, one below the other")
    check_most(most)
    never_wrong = []
    others = []
    for end in ends(plan):
        wrong = lot_odds(plan, end, size, low)
        caught = lot_odds(plan, end, size, high)
        if wrong != NOUGHT:
            others.append((end, over(caught, wrong), wrong, caught))
        elif caught != NOUGHT:
            never_wrong.append((end, NOUGHT, wrong, caught))
    return taken(never_wrong + by_falling_ratio(others), most)
