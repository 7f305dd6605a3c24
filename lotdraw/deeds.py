"""Rows of words that a desk is told, read to a deed, a name and what else they tell."""

from lotdraw.errors import NoDeed
from lotdraw.fracs import frac
from lotdraw.texts import is_number

MOST_FIGURES = 30
# What stands behind the name, word by word.
FORMS = {
    "plan many": ("number",),
    "plan till": ("number", "number"),
    "plan steps": ("number", "number or -1", "number", "number"),
    "plan between": ("number", "number", "number", "number", "number"),
    "show": (),
    "ends": (),
    "ways": ("number", "number"),
    "odds": ("number", "number", "fraction"),
    "mean": ("fraction",),
    "share": ("number", "number"),
    "judge": (),
    "rule": ("fraction", "fraction", "fraction"),
    "lot": ("name",),
    "bad": (),
    "good": (),
    "at": (),
}


# A plan by hand is read ahead of all others, as its text alone may hold blanks of whatever kind.
def read_row(row):
    parts = row.split(" ", 3)
    if len(parts) == 4 and parts[0] == "plan" and parts[1] != "" and parts[2] == "hand":
        return ("plan hand", parts[1], [parts[3]])
    words = row.split(" ")
    check("" not in words and len(words) >= 2)
    if words[0] == "plan" and len(words) >= 3:
        return read_words("plan " + words[2], words[1], words[3:])
    return read_words(words[0], words[1], words[2:])


def read_words(deed, name, words):
    check(deed in FORMS)
    kinds = FORMS[deed]
    check(len(words) == len(kinds))
    return (deed, name, [read_word(word, kind) for word, kind in zip(words, kinds)])


def read_word(word, kind):
    if kind == "name":
        return word
    if kind == "fraction":
        return read_fraction(word)
    if kind == "number or -1" and word == "-1":
        return -1
    return read_whole(word)


def read_whole(word):
    check(is_number(word) and len(word) <= MOST_FIGURES)
    return int(word)


def read_fraction(word):
    parts = word.split("/")
    if len(parts) == 1:
        fraction = (read_whole(word), 1)
    else:
        check(len(parts) == 2)
        fraction = (read_whole(parts[0]), read_whole(parts[1]))
        check(fraction[1] > 1 and fraction == frac(fraction[0], fraction[1]))
    check(fraction[0] <= fraction[1])
    return fraction


def check(is_of_a_kind):
    if not is_of_a_kind:
        raise NoDeed("the row is of no kind that a desk knows")
