"""Rows of draws: texts of the signs b (bad) and g (good)."""

from lotdraw.errors import NoRow, TooMany
from lotdraw.plans import after, ends, goes_on
from lotdraw.ways import ways_from

MOST_ROWS = 4000


# There may be millions of rows, so they are counted ahead of being written.
def rows_of(plan):
    ways = ways_from(plan, (0, 0))
    if sum([ways[end] for end in ends(plan)]) > MOST_ROWS:
        raise TooMany("the plan has too many rows of draws")
    return rows_behind(plan, "", (0, 0))


def end_of(plan, row):
    count = (0, 0)
    for sign in row:
        if sign not in ("b", "g") or not goes_on(plan, count):
            raise NoRow("the text is no row of draws of the plan")
        count = after(count, sign)
    if goes_on(plan, count):
        raise NoRow("the row leads to no end")
    return count


def rows_behind(plan, row, count):
    if not goes_on(plan, count):
        return [row]
    told = rows_behind(plan, row + "b", after(count, "b"))
    told.extend(rows_behind(plan, row + "g", after(count, "g")))
    return told
