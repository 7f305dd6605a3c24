"""Polynomials in x: lists of fractions, those of the powers 0, 1 and so on of x, the last one not (0, 1)."""

from lotdraw.fracs import frac, greatest_divisor, plus, times

NOUGHT = (0, 1)
LESS_ONE = (-1, 1)


def sum_of(one, other):
    length = max(len(one), len(other))
    return trimmed([plus(fraction_at(one, place), fraction_at(other, place)) for place in range(length)])


def less(one, other):
    return sum_of(one, scaled(other, LESS_ONE))


# Over one bottom each, the fractions are multiplied and added as whole numbers, and each sum is
# brought to lowest terms once instead of at every step.
def product(one, other):
    one_bottom = common_bottom(one)
    other_bottom = common_bottom(other)
    tops = product_of_tops(tops_over(one, one_bottom), tops_over(other, other_bottom))
    bottom = one_bottom * other_bottom
    return trimmed([frac(top, bottom) for top in tops])


def scaled(one, share):
    return trimmed([times(fraction, share) for fraction in one])


# For the same reason the share's bottom is carried along, to be divided by at the end.
def worth(one, share):
    bottom = common_bottom(one)
    total = 0
    carried = 1
    for top in reversed(tops_over(one, bottom)):
        total = total * share[0] + top * carried
        carried = carried * share[1]
    return frac(total * share[1], bottom * carried)


def of_count(bad, good):
    told = [NOUGHT] * bad
    top = 1
    for place in range(good + 1):
        told.append((top, 1))
        top = -top * (good - place) // (place + 1)
    return told


def trimmed(fractions):
    kept = list(fractions)
    while len(kept) > 0 and kept[-1] == NOUGHT:
        kept.pop()
    return kept


def fraction_at(one, place):
    if place < len(one):
        return one[place]
    return NOUGHT


def common_bottom(fractions):
    common = 1
    for fraction in fractions:
        common = common // greatest_divisor(common, fraction[1]) * fraction[1]
    return common


def tops_over(fractions, bottom):
    return [fraction[0] * (bottom // fraction[1]) for fraction in fractions]


def product_of_tops(ones, others):
    tops = [0] * (len(ones) + len(others))
    for place, top in enumerate(ones):
        for shift, other_top in enumerate(others):
            tops[place + shift] += top * other_top
    return tops
