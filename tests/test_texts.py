import itertools
import random
import unittest

from lotdraw.errors import NoText
from lotdraw.texts import read_plan, show_plan
from some_plans import ALL_OF_24, BAD_OF_24, GAPS_OF_24, GOOD_OF_24, ONE_PLACE, PLANS, SMALL

SIGNS = [chr(code) for code in range(ord(" "), ord("~") + 1) if chr(code) != "%"]


class Texts(unittest.TestCase):
    def refused(self, text):
        with self.assertRaises(NoText, msg=repr(text)):
            read_plan(text)

    def test_written_out(self):
        for text, plan in (
            ("0", ONE_PLACE), ("0|0 1|1", ((0,), (0, 1), (1,))), ("0|1|2", ((0,), (1,), (2,))),
            ("|".join(["0"] * 24), GOOD_OF_24), ("|".join(str(draws) for draws in range(24)), BAD_OF_24),
        ):
            self.assertEqual(show_plan(plan), text)
            self.assertEqual(read_plan(text), plan)

    def test_there_and_back(self):
        for plan in SMALL + PLANS:
            text = show_plan(plan)
            self.assertIs(type(text), str)
            told = read_plan(text)
            self.assertEqual(told, plan)
            self.assertEqual({type(thing) for thing in (told,) + told}, {tuple})
            self.assertEqual({type(bad) for place in told for bad in place}, {int})

    def test_all_short_texts(self):
        texts = {show_plan(plan): plan for plan in SMALL}
        for length in range(7):
            for signs in itertools.product("012| ", repeat=length):
                text = "".join(signs)
                if text in texts:
                    self.assertEqual(read_plan(text), texts[text])
                else:
                    self.refused(text)

    def test_one_sign_put_in_taken_out_or_changed(self):
        source = random.Random(51)
        for plan in (ONE_PLACE, ((0,), (0, 1), (1,)), GAPS_OF_24, ALL_OF_24, BAD_OF_24):
            text = show_plan(plan)
            for turn in range(1500):
                at = source.randrange(len(text) + 1)
                sign = source.choice(SIGNS + list("0123456789| ") * 6)
                other = text[:at] + source.choice((sign, "")) + text[at + source.choice((0, 1)):]
                try:
                    told = read_plan(other)
                except NoText:
                    self.assertNotEqual(other, text)
                else:
                    self.assertEqual(show_plan(told), other)

    def test_single_signs(self):
        for sign in SIGNS:
            if sign != "0":
                self.refused(sign)
                self.refused("0" + sign)
                self.refused(sign + "0")
                self.refused("0|0" + sign + "|0")
            if sign not in "01":
                self.refused("0|" + sign)

    def test_wrong_texts(self):
        for text in (
            "", " ", "|", "||", " 0", "0 ", "|0", "0|", "0||0", "0||", "0| 0", "0 |0", "0|0  1", "0|0 1 ", "0| 0 1",
            "00", "0|01", "0|00", "0|0 01", "01", "0|0 1|001", "-0", "+0", "0|-1", "0|+1", "0|0 +1", "0x0", "0|1.",
            "0|1.0",
            "0|1_", "0|1_0", "0|1e0", "0|a", "a", "O", "0,1", "0|0,1", "0|0;1", "0|0-1", "0/0", "(0,)", "((0,),)",
            "0\\n", "None", "True", "0|True",
        ):
            self.refused(text)

    def test_tables_that_are_no_plans(self):
        for text in (
            "1", "2", "0 1", "0 0", "0|1 0", "0|0 0", "0|1 1", "0|2", "0|0 2", "0|0 1 2", "0|0|2", "0|1|0", "0|0 1|2 1",
            "0|0 1|0 2|0 1 2 4", "10", "0|10", "0|0 10",
            "|".join(["0"] * 25), show_plan(ALL_OF_24) + "|0", show_plan(BAD_OF_24) + "|24",
        ):
            self.refused(text)

    def test_long_numbers_and_texts(self):
        for text in (
            "1" * 3000, "0" * 3000, "9" * 2998 + "|0", "0|" + "1" * 2998, "0|0 " + "1" * 2996, "0|" + "0" * 2997 + "1",
            "0 " * 1500, "0|" * 1500, " " * 3000, "|" * 3000, "0" + "|0" * 1499, "0" + " 0" * 1499, "~" * 3000,
            "0|" + "1" * 5000, "7" * 10000, "0|0 1" + "|0 1" * 700, "0" + " 1" * 2000,
        ):
            self.refused(text)

    def test_a_long_number_among_short_ones(self):
        for number in ("100", "123", "1" * 30, "1" * 300):
            for text in (f"{number}", f"0|{number}", f"0|0 {number}", f"0|{number} 1", f"0|0 1|{number}|0"):
                self.refused(text)


if __name__ == "__main__":
    unittest.main()
