"""Plans by words: what they draw on by is told in a few numbers."""

from lotdraw.errors import NoPlan
from lotdraw.plans import MOST_PLACES, plan_while


def so_many(draws):
    check(1 <= draws <= MOST_PLACES)
    return plan_while(lambda found, drawn: drawn < draws)


def till(bad, draws):
    check(1 <= bad <= MOST_PLACES and 1 <= draws <= MOST_PLACES)
    return plan_while(lambda found, drawn: found < bad and drawn < draws)


def two_steps(first, low, high, second):
    check(first >= 1 and second >= 1 and first + second <= MOST_PLACES)
    check(low >= -1 and high > low)

    def draws_on(found, drawn):
        if drawn == first:
            return low < found < high
        return drawn < first + second

    return plan_while(draws_on)


def between(rise, run, below, above, draws):
    check(rise >= 0 and run >= 1 and below >= 1 and above >= 1)
    check(1 <= draws <= MOST_PLACES)
    return plan_while(lambda found, drawn: drawn < draws and -below < run * found - rise * drawn < above)


def check(is_within_bounds):
    if not is_within_bounds:
        raise NoPlan("a number lies beyond its bounds")
