"""Fractions: tuples (top, bottom) in lowest terms, the bottom from 1 on."""

from lotdraw.errors import NoNumber

# Below so many bits plain division is the quicker way to the greatest divisor.
LONG = 4000
# How many leading bits a leap looks at, and how many of them it sheds.
WINDOW = 240
SHED = 120


def frac(top, bottom):
    if bottom == 0:
        raise NoNumber("the bottom of a fraction is 0")
    shared = greatest_divisor(top, bottom)
    if bottom < 0:
        shared = -shared
    return (top // shared, bottom // shared)


# Only what the bottoms share can fall away from a sum, and only the one's top against the other's
# bottom from a product: divisors of such smaller numbers are quicker found.
def plus(one, other):
    shared = greatest_divisor(one[1], other[1])
    one_part = one[1] // shared
    other_part = other[1] // shared
    rest = frac(one[0] * other_part + other[0] * one_part, shared)
    return (rest[0], one_part * other_part * rest[1])


def minus(one, other):
    return plus(one, (-other[0], other[1]))


def times(one, other):
    left = frac(one[0], other[1])
    right = frac(other[0], one[1])
    return (left[0] * right[0], left[1] * right[1])


def over(one, other):
    return times(one, frac(other[1], other[0]))


# Powers of numbers that share no divisor share none either, so nothing is to be divided out.
def power(one, many):
    top = 1
    bottom = 1
    for turn in range(many):
        top = top * one[0]
        bottom = bottom * one[1]
    return (top, bottom)


def under(one, other):
    return one[0] * other[1] < other[0] * one[1]


def greatest_divisor(one, other):
    one = abs(one)
    other = abs(other)
    while other != 0:
        rest = one % other
        one = other
        other = rest
        if other.bit_length() > LONG:
            pair = leap(one, other)
            one = pair[0]
            other = pair[1]
    return one


# Long numbers are dear to divide, so many steps of division are worked out on their leading bits and
# then taken at once. The two are mixed with a determinant of 1 or -1, which keeps their greatest
# divisor whatever the bits cut off were; these only decide how far down a leap leads.
def leap(one, other):
    cut = one.bit_length() - WINDOW
    upper = (one >> cut, 1, 0)
    lower = (other >> cut, 0, 1)
    while lower[0] >> SHED != 0:
        many = upper[0] // lower[0]
        rest = (upper[0] - many * lower[0], upper[1] - many * lower[1], upper[2] - many * lower[2])
        upper = lower
        lower = rest
    return (abs(upper[1] * one + upper[2] * other), abs(lower[1] * one + lower[2] * other))
