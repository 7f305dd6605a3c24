"""Plans to test with, and what is told of them worked out in the plainest way."""

import itertools
import math
import random
from fractions import Fraction

ONE_PLACE = ((0,),)
ALL_OF_24 = tuple(tuple(range(draws + 1)) for draws in range(24))
GOOD_OF_24 = ((0,),) * 24
BAD_OF_24 = tuple((draws,) for draws in range(24))
WITH_GAPS = ((0,), (0, 1), (0, 2), (1, 3), (1, 2, 4))
GAPS_OF_24 = ((0,), (0, 1)) + ((0, 2), (0, 1, 3)) * 11


def led(place):
    return sorted({bad for bad in place} | {bad + 1 for bad in place})


def longer_by_one(plan):
    there = led(plan[-1])
    for many in range(1, len(there) + 1):
        for place in itertools.combinations(there, many):
            yield plan + (place,)


def all_plans(places):
    """All plans of at most so many places."""
    told = []
    last = [ONE_PLACE]
    for turn in range(places):
        told.extend(last)
        last = [longer for plan in last for longer in longer_by_one(plan)]
    return told


def any_plan(source, places, width=25):
    """A plan by chance, of so many places, each of at most so many numbers."""
    plan = ONE_PLACE
    while len(plan) < places:
        there = led(plan[-1])
        many = source.randint(1, min(len(there), width))
        plan += (tuple(sorted(source.sample(there, many))),)
    return plan


def chance_plans():
    source = random.Random(31)
    told = [any_plan(source, places) for places in range(1, 25) for turn in range(4)]
    return told + [any_plan(source, places, 3) for places in range(1, 25) for turn in range(2)]


SMALL = all_plans(4)
PLANS = [ONE_PLACE, ALL_OF_24, GOOD_OF_24, BAD_OF_24, WITH_GAPS, GAPS_OF_24] + chance_plans()


def by_order(counts):
    return sorted(counts, key=lambda count: (count[0] + count[1], count[0]))


def plain_on(plan):
    """The counts at which the plan draws on."""
    return {(bad, draws - bad) for draws, place in enumerate(plan) for bad in place}


def plain_come_to(on):
    """All counts come to where one draws on at these ones."""
    there = set()
    new = {(0, 0)}
    while new:
        there |= new
        behind = set()
        for bad, good in new & set(on):
            behind |= {(bad + 1, good), (bad, good + 1)}
        new = behind - there
    return there


def plain_plan(on):
    """The plan that draws on at those of these counts that are come to."""
    taken = plain_come_to(on) & set(on)
    places = 1 + max(bad + good for bad, good in taken)
    return tuple(
        tuple(sorted(bad for bad, good in taken if bad + good == draws)) for draws in range(places)
    )


def plain_ends(plan):
    on = plain_on(plan)
    return by_order(plain_come_to(on) - on)


def plain_rows(plan):
    """Tuples (row, count) of all rows of draws, also those that end under way, gone through one by one."""
    on = plain_on(plan)
    told = []
    last = [("", (0, 0))]
    while last:
        told.extend(last)
        longer = []
        for row, (bad, good) in last:
            if (bad, good) in on:
                longer.append((row + "b", (bad + 1, good)))
                longer.append((row + "g", (bad, good + 1)))
        last = longer
    return told


def powers_of(bad, good):
    """The numbers of the powers of x in x to the power of bad times (1 - x) to the power of good."""
    return [0] * bad + [(-1) ** place * math.comb(good, place) for place in range(good + 1)]


def as_told(numbers):
    kept = [Fraction(number) for number in numbers]
    while kept and kept[-1] == 0:
        kept.pop()
    return [(number.numerator, number.denominator) for number in kept]


def plain_ways(plan):
    on = plain_on(plan)
    ways = {(0, 0): 1}
    for draws in range(len(plan)):
        for bad in range(draws + 1):
            if (bad, draws - bad) in on:
                for led in ((bad + 1, draws - bad), (bad, draws - bad + 1)):
                    ways[led] = ways.get(led, 0) + ways[bad, draws - bad]
    return ways


def drawn_one_by_one(plan, size, bad):
    """How often one comes to each count, each draw being one of the pieces left."""
    on = plain_on(plan)
    often = {(0, 0): Fraction(1)}
    for count in sorted(on, key=sum):
        found, fine = count
        left = size - found - fine
        for led, pieces in (((found + 1, fine), bad - found), ((found, fine + 1), size - bad - fine)):
            often[led] = often.get(led, 0) + often[count] * max(pieces, 0) / left
    return often
