import random
import unittest
from fractions import Fraction

from lotdraw.desk import Desk
from lotdraw.errors import NoDeed, NoDraw, NoEnd, NoName, NoPlan, NoShares, NoText
from lotdraw.odds import mean_draws, odds
from lotdraw.polys import worth
from lotdraw.rules import rule_by_ratio
from lotdraw.tellings import share_at
from lotdraw.texts import show_plan
from lotdraw.words import between, so_many, till, two_steps
from some_plans import (
    ALL_OF_24, BAD_OF_24, GAPS_OF_24, GOOD_OF_24, ONE_PLACE, PLANS, SMALL, WITH_GAPS, plain_ends, plain_on, plain_ways,
)

TEXT = "0|0 1|1"
THIRTY = "9" * 30
THIRTY_ONE = "1" + "0" * 30
NO_NUMBERS = (
    "01", "00", "-1", "-0", "+1", "1.0", "1e3", "x", "b", "1x", "0x1", "1_0", "1,2", "1/2", "3/1", "|", THIRTY_ONE,
    "1" * 31, "9" * 60, "9" * 2000,
)
NO_FRACTIONS = (
    "2/4", "3/6", "0/5", "0/2", "0/1", "1/1", "2/1", "3/2", "2", "7", "10", "1/0", "0/0", "4/2", "-1/2", "1/-2", "-1",
    "01", "00", "01/2", "1/02", "1/2/3", "1//2", "/2", "1/", "/", "0.5", "x", "1/x", "a/b", "+1/2", ".5",
    "1/" + THIRTY_ONE, "1" * 31 + "/" + "9" * 31, "9" * 2000, "1/" + "9" * 2000,
)
NO_NAMES = ("A", "aB", "abcdefghi", "a1", "1", "a-b", "a_b", "-", "a,b", "~", "|", "abcdefgH", "a" * 2000, "aa.", "0|0")


def written(fraction):
    return str(fraction[0]) if fraction[1] == 1 else f"{fraction[0]}/{fraction[1]}"


def desk_with(*rows):
    desk = Desk()
    for row in rows:
        desk.say(row)
    return desk


class DeskCase(unittest.TestCase):
    def check(self, desk, row, answer):
        told = desk.say(row)
        self.assertIs(type(told), str)
        self.assertEqual(told, answer)

    def refused(self, desk, row, error):
        with self.assertRaises(error) as caught:
            desk.say(row)
        self.assertIs(type(caught.exception), error, row)


class Plans(DeskCase):
    def test_plans_by_words(self):
        desk = Desk()
        for row, plan in (
            ("many 3", so_many(3)), ("many 24", so_many(24)), ("many 1", so_many(1)), ("till 2 5", till(2, 5)),
            ("till 24 24", till(24, 24)), ("steps 2 0 2 1", two_steps(2, 0, 2, 1)),
            ("steps 3 -1 1 4", two_steps(3, -1, 1, 4)), ("steps 5 2 4 19", two_steps(5, 2, 4, 19)),
            ("between 1 2 3 4 20", between(1, 2, 3, 4, 20)), ("between 0 1 1 1 24", between(0, 1, 1, 1, 24)),
        ):
            self.check(desk, "plan some " + row, "ok")
            self.check(desk, "show some", show_plan(plan))

    def test_numbers_of_thirty_figures(self):
        desk = desk_with(f"plan a between {THIRTY} {THIRTY} {THIRTY} {THIRTY} 9")
        long = int(THIRTY)
        self.check(desk, "show a", show_plan(between(long, long, long, long, 9)))
        self.check(desk, f"plan a steps 4 0 {THIRTY} 2", "ok")
        self.check(desk, "show a", show_plan(two_steps(4, 0, long, 2)))
        self.check(desk, f"ways a {THIRTY} 0", "0")
        self.refused(desk, f"plan a many {THIRTY}", NoPlan)

    def test_plans_by_hand(self):
        desk = Desk()
        for plan in SMALL + PLANS:
            self.check(desk, "plan x hand " + show_plan(plan), "ok")
            self.check(desk, "show x", show_plan(plan))

    def test_texts_that_write_no_plan(self):
        desk = desk_with("plan a hand " + TEXT)
        for text in (
            "", " ", "  ", " " + TEXT, TEXT + " ", "0|0  1|1", "0 |0 1|1", "0| 0 1|1", "|", "0||1", "1", "0|2",
            "0|0|00", "0|0 1|1|", "hand", "many 3", "x", "0,0", "~", "0|1 0", "0|0 0", "-1",
            "|".join(["0"] * 25), "9" * 2900,
        ):
            self.refused(desk, "plan a hand " + text, NoText)
            self.refused(desk, "plan new hand " + text, NoText)
            self.check(desk, "show a", TEXT)
            self.refused(desk, "show new", NoName)

    def test_by_hand_without_a_blank_behind_is_a_word_too_few(self):
        desk = desk_with("plan a many 1")
        self.refused(desk, "plan a hand", NoDeed)
        self.refused(desk, "plan a hand ", NoText)
        self.refused(desk, "plan a hand0", NoDeed)

    def test_numbers_beyond_their_bounds(self):
        desk = desk_with("plan a hand " + TEXT)
        for row in (
            "many 0", "many 25", "till 0 5", "till 5 0", "till 25 5", "till 5 25", "steps 0 0 1 1", "steps 1 0 1 0",
            "steps 12 0 1 13", "steps 3 2 2 3", "steps 3 2 1 3", "steps 3 -1 0 25", "between 1 0 1 1 5",
            "between 1 1 0 1 5", "between 1 1 1 0 5", "between 1 1 1 1 0", "between 1 1 1 1 25",
        ):
            self.refused(desk, "plan a " + row, NoPlan)
            self.refused(desk, "plan new " + row, NoPlan)
            self.check(desk, "show a", TEXT)
            self.refused(desk, "show new", NoName)

    def test_one_in_the_stead_of_another(self):
        desk = desk_with("plan a many 2", "plan b many 3", "plan a till 1 2")
        self.check(desk, "show a", "0|0")
        self.check(desk, "show b", "0|0 1|0 1 2")

    def test_names_that_look_like_other_words(self):
        desk = Desk()
        for name in ("plan", "hand", "many", "show", "lot", "bad", "end", "a", "zzzzzzzz", "abcdefgh"):
            self.check(desk, f"plan {name} many 2", "ok")
            self.check(desk, f"plan {name} hand 0|1", "ok")
            self.check(desk, f"show {name}", "0|1")
            self.check(desk, f"lot {name} {name}", "ok")
            self.check(desk, f"at {name}", "0,0")


class Asks(DeskCase):
    def test_written_out(self):
        desk = desk_with("plan a hand " + TEXT)
        self.check(desk, "ends a", "0,2 2,0 1,2 2,1")
        self.check(desk, "ways a 1 2", "2")
        self.check(desk, "ways a 0 0", "1")
        self.check(desk, "ways a 5 5", "0")
        self.check(desk, "odds a 1 2 1/3", "8/27")
        self.check(desk, "odds a 1 2 0", "0")
        self.check(desk, "odds a 2 0 1", "1")
        self.check(desk, "mean a 1/2", "5/2")
        self.check(desk, "mean a 0", "2")
        self.check(desk, "share a 0 2", "0")
        self.check(desk, "share a 2 0", "1")
        self.check(desk, "share a 1 2", "1/2")
        self.check(desk, "judge a", "only")
        self.check(desk, "rule a 1/3 2/3 1/4", "2,0 : 2 1/9 4/9")
        self.check(desk, "rule a 1/3 2/3 1/3", "2,0 2,1 : 1/2 7/27 20/27")
        self.check(desk, "rule a 1/3 2/3 0", ": 4 0 0")
        self.check(desk, "rule a 1/3 2/3 1", "0,2 2,0 1,2 2,1 : 0 1 1")

    def test_others(self):
        desk = desk_with("plan a hand 0|0 1|0 2")
        self.check(desk, "judge a", "others")

    def test_all_plans(self):
        for plan in SMALL[::3] + PLANS[::3]:
            desk = desk_with("plan a hand " + show_plan(plan))
            there = plain_ends(plan)
            ways = plain_ways(plan)
            self.check(desk, "ends a", " ".join(f"{bad},{good}" for bad, good in there))
            for bad in range(0, len(plan) + 2, 3):
                for good in range(0, len(plan) + 2, 2):
                    self.check(desk, f"ways a {bad} {good}", str(ways.get((bad, good), 0)))
            for share in ((0, 1), (1, 1), (1, 3), (5, 7)):
                for bad, good in there[::4]:
                    told = written(worth(odds(plan, (bad, good)), share))
                    self.check(desk, f"odds a {bad} {good} {written(share)}", told)
                self.check(desk, f"mean a {written(share)}", written(worth(mean_draws(plan), share)))
            for bad, good in there:
                self.check(desk, f"share a {bad} {good}", written(share_at(plan, (bad, good))))
            has_gap = any(place[-1] - place[0] >= len(place) for place in plan)
            self.check(desk, "judge a", "others" if has_gap else "only")

    def test_rules(self):
        for plan in SMALL[::3] + PLANS[::3]:
            desk = desk_with("plan a hand " + show_plan(plan))
            for low, high, most in (((1, 10), (2, 5), (1, 4)), ((1, 3), (2, 3), (4, 5)), ((1, 2), (9, 10), (0, 1))):
                rule, first, wrong, caught = rule_by_ratio(plan, low, high, most)
                words = [f"{bad},{good}" for bad, good in rule] + [":", written(first), written(wrong), written(caught)]
                self.check(desk, f"rule a {written(low)} {written(high)} {written(most)}", " ".join(words))

    def test_fractions_of_thirty_figures(self):
        desk = desk_with("plan a hand " + show_plan(GAPS_OF_24), "plan all many 24")
        low, high = Fraction(int("3" * 30) - 1, int(THIRTY)), Fraction(int("7" * 30), int(THIRTY) - 1)
        low, high = (low.numerator, low.denominator), (high.numerator, high.denominator)
        for name, plan in (("a", GAPS_OF_24), ("all", ALL_OF_24)):
            self.check(desk, f"mean {name} {written(low)}", written(worth(mean_draws(plan), low)))
            rule, first, wrong, caught = rule_by_ratio(plan, low, high, low)
            words = [f"{bad},{good}" for bad, good in rule] + [":", written(first), written(wrong), written(caught)]
            self.check(desk, f"rule {name} {written(low)} {written(high)} {written(low)}", " ".join(words))

    def test_counts_that_are_no_ends(self):
        desk = desk_with("plan a hand " + TEXT)
        for count in ("0 0", "1 0", "1 1", "3 0", "0 3", f"{THIRTY} 0", f"0 {THIRTY}", f"{THIRTY} {THIRTY}"):
            self.refused(desk, f"odds a {count} 1/2", NoEnd)
            self.refused(desk, f"share a {count}", NoEnd)

    def test_shares_that_are_none(self):
        desk = desk_with("plan a hand " + TEXT)
        for shares in ("0 1/2", "1/2 1", "1/2 1/2", "2/3 1/3", "0 1", "1 0", "0 0", "1 1"):
            for most in ("0", "1/2", "1"):
                self.refused(desk, f"rule a {shares} {most}", NoShares)


class Lots(DeskCase):
    def test_written_out(self):
        desk = desk_with("plan a hand " + TEXT)
        self.check(desk, "lot l a", "ok")
        self.check(desk, "at l", "0,0")
        self.check(desk, "bad l", "on")
        self.check(desk, "at l", "1,0")
        self.check(desk, "good l", "on")
        self.check(desk, "at l", "1,1")
        self.check(desk, "good l", "end 1/2")
        self.check(desk, "at l", "1,2")

    def test_ends_with_whole_shares(self):
        desk = desk_with("plan a many 1", "lot l a", "lot m a")
        self.check(desk, "bad l", "end 1")
        self.check(desk, "good m", "end 0")

    def test_draws_behind_an_end(self):
        desk = desk_with("plan a hand " + TEXT, "lot l a", "bad l", "bad l")
        for turn in range(2):
            self.refused(desk, "bad l", NoDraw)
            self.refused(desk, "good l", NoDraw)
            self.check(desk, "at l", "2,0")

    def test_draws_by_chance(self):
        source = random.Random(11)
        for plan in [ONE_PLACE, WITH_GAPS, GOOD_OF_24, BAD_OF_24, ALL_OF_24] + PLANS[::6]:
            desk = desk_with("plan p hand " + show_plan(plan))
            on = plain_on(plan)
            for turn in range(4):
                self.check(desk, "lot l p", "ok")
                bad, good = 0, 0
                while (bad, good) in on:
                    is_bad = source.random() < 0.5
                    bad, good = bad + is_bad, good + 1 - is_bad
                    awaited = "on" if (bad, good) in on else "end " + written(share_at(plan, (bad, good)))
                    self.check(desk, "bad l" if is_bad else "good l", awaited)
                    self.check(desk, "at l", f"{bad},{good}")
                self.refused(desk, source.choice(("bad l", "good l")), NoDraw)

    def test_a_plan_and_a_lot_by_the_same_name(self):
        desk = desk_with("plan a many 2", "lot a a", "bad a")
        self.check(desk, "show a", "0|0 1")
        self.check(desk, "at a", "1,0")
        self.check(desk, "plan a many 1", "ok")
        self.check(desk, "at a", "1,0")

    def test_a_plan_put_anew_under_way(self):
        desk = desk_with("plan a many 3", "lot l a", "bad l", "plan a many 1")
        self.check(desk, "good l", "on")
        self.check(desk, "bad l", "end 2/3")
        self.check(desk, "show a", "0")
        self.check(desk, "lot l a", "ok")
        self.check(desk, "bad l", "end 1")

    def test_a_lot_begun_anew(self):
        desk = desk_with("plan a many 2", "plan b many 1", "lot l a", "bad l", "lot m a")
        self.check(desk, "lot l a", "ok")
        self.check(desk, "at l", "0,0")
        self.check(desk, "bad l", "on")
        self.check(desk, "bad l", "end 1")
        self.check(desk, "lot l b", "ok")
        self.check(desk, "good l", "end 0")
        self.check(desk, "at m", "0,0")

    def test_two_lots_by_one_plan(self):
        desk = desk_with("plan a many 3", "lot l a", "lot m a", "bad l", "bad l", "good m")
        self.check(desk, "at l", "2,0")
        self.check(desk, "at m", "0,1")


GOOD_ROWS = (
    "plan a many 3", "plan a till 2 3", "plan a steps 2 0 2 1", "plan a steps 2 -1 2 1", "plan a between 1 2 3 4 5",
    "show a", "ends a", "ways a 1 2", "odds a 1 2 1/3", "mean a 1/3", "share a 1 2", "judge a", "rule a 1/3 2/3 1/4",
    "lot l a", "at l", "bad l", "good l",
)
# For each kind of row how its words begin, and which kinds of word stand behind.
ROW_FORMS = (
    ("plan {} many", "n"), ("plan {} till", "nn"), ("plan {} steps", "nwnn"), ("plan {} between", "nnnnn"),
    ("ways {}", "nn"), ("odds {}", "nnf"), ("mean {}", "f"), ("share {}", "nn"), ("rule {}", "fff"),
)
PLAIN_WORDS = {"n": "2", "w": "2", "f": "1/2"}


def rows_with(word, kind, name):
    """All rows with that word once in the stead of one of that kind."""
    for begins, kinds in ROW_FORMS:
        for at, other in enumerate(kinds):
            if other == kind:
                words = [PLAIN_WORDS[part] for part in kinds]
                words[at] = word
                yield " ".join([begins.replace("{}", name)] + words)


class Refusals(DeskCase):
    def setUp(self):
        self.desk = desk_with("plan a hand " + TEXT, "lot l a", "bad l")

    def unchanged(self):
        self.check(self.desk, "show a", TEXT)
        self.check(self.desk, "at l", "1,0")

    def test_rows_of_another_kind(self):
        for row in (
            "", " ", "  ", "x", "plan", "plan a", "plan a 3", "plan a some 3", "plan many 3", "plan a Many 3",
            "shows a", "Show a", "SHOW a", "show", "ends", "lot", "lot l", "draw l", "bad", "good", "at", "a",
            "a show", "odd a",
            "hand a " + TEXT, "plan hand " + TEXT, "plan a a hand " + TEXT, "plan a Hand " + TEXT,
            "plan a hands " + TEXT, "many a 3", "till a 1 2", "ok", "on", "~", "show,a", "show|a",
            "lots l a", "plans a many 3",
        ):
            self.refused(self.desk, row, NoDeed)
            self.unchanged()

    def test_words_too_many_or_too_few(self):
        for row in GOOD_ROWS:
            for more in (" a", " 1", " 0", " 1/2", " x y"):
                self.refused(self.desk, row + more, NoDeed)
            self.refused(self.desk, row.rpartition(" ")[0], NoDeed)
            self.unchanged()

    def test_blanks_ahead_behind_and_doubled(self):
        for row in GOOD_ROWS:
            for other in (" " + row, row + " ", "  " + row, row + "  ", row.replace(" ", "  ")):
                self.refused(self.desk, other, NoDeed)
            parts = row.split(" ")
            for at in range(1, len(parts)):
                self.refused(self.desk, " ".join(parts[:at]) + "  " + " ".join(parts[at:]), NoDeed)
            self.unchanged()

    def test_blanks_where_a_name_should_stand(self):
        for row in (
            "show ", "ends ", "judge ", "bad ", "good ", "at ", "lot l ", "lot  a", "lot  ",
            "plan  many 3", "plan  till 1 2",
            "plan  steps 2 0 2 1", "plan  between 1 2 3 4 5", "ways  1 2", "odds  1 2 1/2", "mean  1/2", "share  1 2",
            "rule  1/3 2/3 1/2", " a", " l",
        ):
            self.refused(self.desk, row, NoDeed)
            self.unchanged()

    def test_blanks_ahead_of_the_text_of_a_plan_by_hand(self):
        for row in (
            " plan a hand " + TEXT, "plan  a hand " + TEXT, "plan a  hand " + TEXT, "plan  hand " + TEXT, "plan  hand ",
            "  plan a hand " + TEXT, "plan  hand hand " + TEXT, "plan   hand " + TEXT,
        ):
            self.refused(self.desk, row, NoDeed)
            self.unchanged()

    def test_words_that_are_no_numbers(self):
        for word in NO_NUMBERS:
            for row in rows_with(word, "n", "a"):
                self.refused(self.desk, row, NoDeed)
            if word != "-1":
                for row in rows_with(word, "w", "a"):
                    self.refused(self.desk, row, NoDeed)
        for row in rows_with("-2", "w", "a"):
            self.refused(self.desk, row, NoDeed)
        self.unchanged()

    def test_words_that_are_no_fractions(self):
        for word in NO_FRACTIONS:
            for row in rows_with(word, "f", "a"):
                self.refused(self.desk, row, NoDeed)

    def test_fractions_at_their_bounds(self):
        for word in ("0", "1", "1/2", "1/" + THIRTY, "1" * 30 + "/" + "1" * 29 + "2"):
            self.assertTrue(self.desk.say("mean a " + word))

    def test_no_deed_comes_ahead_of_no_name(self):
        for name in NO_NAMES + ("none",):
            for word in NO_NUMBERS[:6]:
                for row in rows_with(word, "n", name):
                    self.refused(self.desk, row, NoDeed)
            for word in NO_FRACTIONS[:12]:
                for row in rows_with(word, "f", name):
                    self.refused(self.desk, row, NoDeed)
            for row in (f"show {name} ", f"show {name} a", f"lot {name}", f"plan {name} hand", f"plan {name} x 1"):
                self.refused(self.desk, row, NoDeed)

    def test_names_that_are_none(self):
        for name in NO_NAMES:
            for row in (
                f"plan {name} many 3", f"plan {name} till 1 2", f"plan {name} steps 2 0 2 1",
                f"plan {name} hand {TEXT}", f"plan {name} between 1 2 3 4 5", f"show {name}", f"ends {name}",
                f"ways {name} 1 1", f"judge {name}",
                f"odds {name} 1 2 1/2", f"mean {name} 1/2", f"share {name} 1 2", f"rule {name} 1/3 2/3 1/2",
                f"lot {name} a", f"lot l {name}", f"lot {name} {name}", f"bad {name}", f"good {name}", f"at {name}",
            ):
                self.refused(self.desk, row, NoName)
                self.unchanged()

    def test_names_that_have_nothing(self):
        for row in (
            "show l", "ends l", "ways l 1 1", "odds l 1 2 1/2", "mean l 1/2", "share l 1 2", "judge l",
            "rule l 1/3 2/3 1/2", "lot l none", "lot new l", "bad a", "good a", "at a", "show none",
            "bad none", "at none",
        ):
            self.refused(self.desk, row, NoName)
            self.unchanged()
        self.refused(self.desk, "at new", NoName)

    def test_no_name_comes_ahead_of_all_others(self):
        for row in (
            "plan A hand ", "plan A hand x", "plan abcdefghi hand 0||", "plan A many 0", "plan A1 till 0 0",
            "plan A steps 0 0 0 0", "plan A between 0 0 0 0 0", "odds none 9 9 1/2", "share none 9 9", "odds A 9 9 1/2",
            "rule none 1/2 1/2 0", "rule A 0 1 0",
        ):
            self.refused(self.desk, row, NoName)
            self.unchanged()

    def test_two_desks_know_nothing_of_one_another(self):
        other = Desk()
        self.refused(other, "show a", NoName)
        self.refused(other, "at l", NoName)
        other.say("plan a many 1")
        other.say("lot l a")
        other.say("good l")
        self.unchanged()
        self.desk.say("bad l")
        self.check(other, "at l", "0,1")
        self.check(other, "show a", "0")


if __name__ == "__main__":
    unittest.main()
