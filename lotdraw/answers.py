"""What a desk answers to what it is asked of a plan, as texts."""

from lotdraw.odds import mean_draws, odds
from lotdraw.only import is_side_by_side
from lotdraw.plans import ends
from lotdraw.polys import worth
from lotdraw.rules import rule_by_ratio
from lotdraw.tellings import share_at
from lotdraw.texts import show_plan
from lotdraw.ways import ways_to


def answer_of(plan, deed, told):
    if deed == "show":
        return show_plan(plan)
    if deed == "ends":
        return show_counts(ends(plan))
    if deed == "judge":
        return "only" if is_side_by_side(plan) else "others"
    if deed == "mean":
        return show_fraction(worth(mean_draws(plan), told[0]))
    if deed == "rule":
        return show_rule(rule_by_ratio(plan, told[0], told[1], told[2]))
    count = (told[0], told[1])
    if deed == "ways":
        return str(ways_to(plan, count))
    if deed == "share":
        return show_fraction(share_at(plan, count))
    return show_fraction(worth(odds(plan, count), told[2]))


def show_rule(answer):
    words = [show_count(end) for end in answer[0]]
    words.append(":")
    words.extend([show_fraction(fraction) for fraction in answer[1:]])
    return " ".join(words)


def show_counts(counts):
    return " ".join([show_count(count) for count in counts])


def show_count(count):
    return ",".join([str(number) for number in count])


def show_fraction(fraction):
    if fraction[1] == 1:
        return str(fraction[0])
    return "/".join([str(number) for number in fraction])
