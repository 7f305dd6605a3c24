"""Rules of refusing: lists of ends at which a lot is refused."""

from lotdraw.errors import NoShares
from lotdraw.fracs import minus, over, plus, power, times, under
from lotdraw.odds import mean_of
from lotdraw.plans import check_ends, ends
from lotdraw.polys import NOUGHT, common_bottom, tops_over
from lotdraw.ways import ways_from

WHOLE = (1, 1)


def refusing(plan, rule):
    check_ends(plan, rule)
    return mean_of(plan, [WHOLE if end in rule else NOUGHT for end in ends(plan)])


def ratio(count, low, high):
    check_shares(low, high)
    return over(often(count, high), often(count, low))


def rule_by_ratio(plan, low, high, most):
    check_shares(low, high)
    check_most(most)
    ways = ways_from(plan, (0, 0))
    choice = []
    for end in ends(plan):
        many = (ways[end], 1)
        choice.append((end, ratio(end, low, high), times(many, often(end, low)), times(many, often(end, high))))
    return taken(by_falling_ratio(choice), most)


def check_shares(low, high):
    if not (under(NOUGHT, low) and under(low, high) and under(high, WHOLE)):
        raise NoShares("the shares are not above 0, one below the other, and below 1")


def check_most(most):
    if under(most, NOUGHT) or under(WHOLE, most):
        raise NoShares("the most is not from 0 to 1")


# Neither the top of a share nor what it lacks to its bottom shares a divisor with the bottom.
def often(count, share):
    bad_part = power(share, count[0])
    good_part = power(minus(WHOLE, share), count[1])
    return (bad_part[0] * good_part[0], bad_part[1] * good_part[1])


# Ends with the same ratio stay in the order in which they came.
def by_falling_ratio(choice):
    ratios = [part[1] for part in choice]
    tops = tops_over(ratios, common_bottom(ratios))
    places = sorted(range(len(choice)), key=lambda place: -tops[place])
    return [choice[place] for place in places]


def taken(choice, most):
    rule = []
    wrong = NOUGHT
    caught = NOUGHT
    for end, end_ratio, end_wrong, end_caught in choice:
        more = plus(wrong, end_wrong)
        if under(most, more):
            return (in_order(rule), end_ratio, wrong, caught)
        rule.append(end)
        wrong = more
        caught = plus(caught, end_caught)
    return (in_order(rule), NOUGHT, wrong, caught)


def in_order(rule):
    return sorted(rule, key=lambda end: (end[0] + end[1], end[0]))
