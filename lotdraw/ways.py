"""Ways: how many rows of draws lead to a count."""

from lotdraw.plans import after, drawn_on


def ways_to(plan, count):
    return ways_from(plan, (0, 0)).get(count, 0)


def first_bad(plan, count):
    return ways_from(plan, (1, 0)).get(count, 0)


# Counts go in order, so a count's ways are whole by the time one draws on from it. What lies ahead
# of the beginning is led from in no way, and so adds none.
def ways_from(plan, beginning):
    ways = {beginning: 1}
    for count in drawn_on(plan):
        many = ways.get(count, 0)
        for led in (after(count, "b"), after(count, "g")):
            ways[led] = ways.get(led, 0) + many
    return ways
