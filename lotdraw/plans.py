"""Plans: tuples whose place n has, rising, the numbers of bad of the counts with n draws at which one draws on."""

from lotdraw.errors import NoEnd, NoPlan, TooLong

MOST_PLACES = 24


def is_plan(thing):
    if not isinstance(thing, tuple) or not 1 <= len(thing) <= MOST_PLACES:
        return False
    there = [0]
    for place in thing:
        if not is_place(place, there):
            return False
        there = led_to(place)
    return True


def plan_from(counts):
    wanted = {}
    for count in counts:
        wanted[count] = True
    if (0, 0) not in wanted:
        raise NoPlan("the plan does not draw on at (0, 0)")
    return plan_while(lambda bad, draws: (bad, draws - bad) in wanted)


def goes_on(plan, count):
    draws = count[0] + count[1]
    return 0 <= draws < len(plan) and count[0] in plan[draws]


def come_to(plan):
    told = [(0, 0)]
    for draws, place in enumerate(plan, start=1):
        told.extend([(bad, draws - bad) for bad in led_to(place)])
    return told


def ends(plan):
    return [count for count in come_to(plan) if not goes_on(plan, count)]


def drawn_on(plan):
    told = []
    for draws, place in enumerate(plan):
        told.extend([(bad, draws - bad) for bad in place])
    return told


def check_ends(plan, counts):
    there = ends(plan)
    for count in counts:
        if count not in there:
            raise NoEnd("a count is no end of the plan")


# Only counts that are come to are asked about, so a plan made here never holds another one.
def plan_while(draws_on):
    places = []
    there = [0]
    while True:
        draws = len(places)
        place = [bad for bad in there if draws_on(bad, draws)]
        if len(place) == 0:
            return tuple(places)
        if draws == MOST_PLACES:
            raise TooLong("the plan draws on where there are no more places")
        places.append(tuple(place))
        there = led_to(place)


def led_to(place):
    return sorted(set(list(place) + [bad + 1 for bad in place]))


def after(count, sign):
    if sign == "b":
        return (count[0] + 1, count[1])
    return (count[0], count[1] + 1)


# The numbers are looked at ahead of anything else, as other things can't be put in order.
def is_place(thing, there):
    if not isinstance(thing, tuple) or len(thing) == 0:
        return False
    if not all([is_whole(bad) and bad in there for bad in thing]):
        return False
    return list(thing) == sorted(set(thing))


# True and False are ints to Python, and equal to 1 and 0.
def is_whole(thing):
    return isinstance(thing, int) and not isinstance(thing, bool)
