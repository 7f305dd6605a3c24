"""Whether no other telling is right in the mean, and what shows it."""

from lotdraw.errors import NotOnly, Only
from lotdraw.fracs import greatest_divisor
from lotdraw.odds import odds
from lotdraw.plans import ends


def stretches(row):
    told = []
    for number in row:
        if len(told) > 0 and told[-1][1] == number - 1:
            told[-1] = (told[-1][0], number)
        else:
            told.append((number, number))
    return told


def is_side_by_side(plan):
    return all([len(stretches(place)) == 1 for place in plan])


# Taking one end away leaves every other one standing out that did before, so whichever is taken
# first, none is left in the end.
def standing_out(plan):
    if not is_side_by_side(plan):
        raise NotOnly("the plan is not side by side")
    left = ends(plan)
    told = []
    while len(left) > 0:
        first = first_out(left)
        told.append(first)
        left.remove(first[0])
    return told


# Of ends side by side one stands out by its good where none does by its bad.
def first_out(left):
    least = min([end[0] for end in left])
    alone = [end for end in left if end[0] == least]
    if len(alone) == 1:
        return (alone[0], "bad")
    return (min(left, key=lambda end: end[1]), "good")


# A plan with gaps has more ends than its odds have powers of x, so that some odds come of others.
# Each row has an end's odds and a 1 at the end's own place; where rows are put together such that
# no odds are left, these places tell how often each end was taken.
def nought_telling(plan):
    if is_side_by_side(plan):
        raise Only("the plan is side by side")
    width = len(plan) + 1
    kept = {}
    row = []
    for marked in marked_odds(plan, width):
        row = cleared(marked, kept)
        first = first_place(row)
        if first >= width:
            break
        kept[first] = row
    return [(number, 1) for number in row[width:]]


def marked_odds(plan, width):
    there = ends(plan)
    told = []
    for at, end in enumerate(there):
        row = [0] * (width + len(there))
        for place, fraction in enumerate(odds(plan, end)):
            row[place] = fraction[0]
        row[width + at] = 1
        told.append(row)
    return told


def cleared(row, kept):
    first = first_place(row)
    while first in kept:
        row = without_first(row, kept[first], first)
        first = first_place(row)
    return row


def first_place(row):
    return min([place for place, number in enumerate(row) if number != 0])


# Divided by what they share, the numbers stay short.
def without_first(row, other, first):
    mixed = [other[first] * number - row[first] * other_number for number, other_number in zip(row, other)]
    shared = 0
    for number in mixed:
        shared = greatest_divisor(shared, number)
    return [number // shared for number in mixed]
