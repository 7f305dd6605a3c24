"""Plans joined at ends, and plans within one another."""

from lotdraw.plans import check_ends, drawn_on, goes_on, plan_from


def joined(plan, some, other):
    check_ends(plan, some)
    counts = drawn_on(plan)
    for end in sorted(set(some)):
        counts.extend([(end[0] + bad, end[1] + good) for bad, good in drawn_on(other)])
    return plan_from(counts)


def is_within(one, other):
    return all([goes_on(other, count) for count in drawn_on(one)])
