"""Plans as texts, such as `0|0 1|1`: places parted by bars, their numbers by blanks."""

from lotdraw.errors import NoText
from lotdraw.plans import is_plan

FIGURES = "0123456789"
# No plan holds a number of more figures, and Python refuses to read very long ones.
MOST_FIGURES = 2


def show_plan(plan):
    return "|".join([show_place(place) for place in plan])


def show_place(place):
    return " ".join([str(bad) for bad in place])


def read_plan(text):
    plan = tuple([read_place(part) for part in text.split("|")])
    if not is_plan(plan):
        raise NoText("the text writes a table that is no plan")
    return plan


def read_place(text):
    return tuple([read_number(word) for word in text.split(" ")])


def read_number(word):
    if not is_number(word) or len(word) > MOST_FIGURES:
        raise NoText("a word of the text is no number of a plan")
    return int(word)


def is_number(word):
    if word == "" or not all([sign in FIGURES for sign in word]):
        return False
    return word == "0" or word[0] != "0"
