import itertools
import random
import unittest

from lotdraw.errors import NoPlan, TooLong
from lotdraw.plans import come_to, ends, goes_on, is_plan, plan_from
from some_plans import (
    ALL_OF_24, BAD_OF_24, GAPS_OF_24, GOOD_OF_24, ONE_PLACE, PLANS, SMALL, WITH_GAPS,
    by_order, plain_come_to, plain_ends, plain_on, plain_plan,
)

LONG = 10 ** 300 - 1


def counts_up_to(draws):
    return [(bad, many - bad) for many in range(draws + 1) for bad in range(many + 1)]


class CountCase(unittest.TestCase):
    def check_counts(self, told, awaited):
        self.assertIs(type(told), list)
        for count in told:
            self.assertIs(type(count), tuple)
            self.assertEqual([type(part) for part in count], [int, int])
        self.assertEqual(told, awaited)

    def check_plan(self, told, awaited):
        self.assertIs(type(told), tuple)
        for place in told:
            self.assertIs(type(place), tuple)
            self.assertEqual({type(bad) for bad in place}, {int})
        self.assertEqual(told, awaited)


class Counts(CountCase):
    def test_written_out(self):
        plan = ((0,), (0, 1), (1,))
        self.check_counts(come_to(plan), [(0, 0), (0, 1), (1, 0), (0, 2), (1, 1), (2, 0), (1, 2), (2, 1)])
        self.check_counts(ends(plan), [(0, 2), (2, 0), (1, 2), (2, 1)])

    def test_one_place(self):
        self.check_counts(come_to(ONE_PLACE), [(0, 0), (0, 1), (1, 0)])
        self.check_counts(ends(ONE_PLACE), [(0, 1), (1, 0)])

    def test_twenty_four_places(self):
        self.check_counts(come_to(ALL_OF_24), counts_up_to(24))
        self.check_counts(ends(ALL_OF_24), [(bad, 24 - bad) for bad in range(25)])
        self.check_counts(ends(GOOD_OF_24), [(1, good) for good in range(23)] + [(0, 24), (1, 23)])
        self.check_counts(ends(BAD_OF_24), [(bad, 1) for bad in range(24)] + [(24, 0)])

    def test_gaps(self):
        self.check_counts(ends(WITH_GAPS), [
            (1, 1), (0, 3), (2, 1), (3, 1), (1, 4), (2, 3), (3, 2), (4, 1), (5, 0)])
        self.check_counts(ends(((0,), (0, 1), (0, 2))), [(1, 1), (0, 3), (1, 2), (2, 1), (3, 0)])
        self.check_counts(ends(((0,), (0, 1), (0, 2), (1, 3))), [
            (1, 1), (0, 3), (2, 1), (1, 3), (2, 2), (3, 1), (4, 0)])

    def test_all_small_plans_and_plans_by_chance(self):
        for plan in SMALL + PLANS:
            self.check_counts(come_to(plan), by_order(plain_come_to(plain_on(plan))))
            self.check_counts(ends(plan), plain_ends(plan))

    def test_told_lists_are_the_askers_own(self):
        for tell in (come_to, ends):
            for plan in (ONE_PLACE, WITH_GAPS, ALL_OF_24):
                told = tell(plan)
                awaited = list(told)
                told[0] = (7, 7)
                told.append((9, 9))
                self.assertEqual(tell(plan), awaited)
                kept = tell(plan)
                come_to(plan)
                ends(plan)
                self.assertEqual(kept, awaited)


class GoesOn(unittest.TestCase):
    def test_each_count_of_small_plans(self):
        for plan in SMALL:
            on = plain_on(plan)
            for count in counts_up_to(7):
                self.assertIs(goes_on(plan, count), count in on)

    def test_each_count_of_longer_plans(self):
        for plan in PLANS:
            on = plain_on(plan)
            for count in counts_up_to(27):
                self.assertIs(goes_on(plan, count), count in on)

    def test_written_out(self):
        plan = ((0,), (0, 1), (1,))
        self.assertIs(goes_on(plan, (0, 0)), True)
        self.assertIs(goes_on(plan, (1, 1)), True)
        self.assertIs(goes_on(plan, (2, 0)), False)
        self.assertIs(goes_on(plan, (1, 2)), False)
        self.assertIs(goes_on(plan, (0, 3)), False)
        self.assertIs(goes_on(plan, (1, 5)), False)
        self.assertIs(goes_on(ALL_OF_24, (0, 23)), True)
        self.assertIs(goes_on(ALL_OF_24, (0, 24)), False)

    def test_counts_far_beyond(self):
        for plan in (ONE_PLACE, ALL_OF_24, GAPS_OF_24):
            for count in ((LONG, 0), (0, LONG), (LONG, LONG), (1, LONG), (LONG, 1)):
                self.assertIs(goes_on(plan, count), False)


class PlanFrom(CountCase):
    def test_written_out(self):
        self.check_plan(plan_from([(0, 0)]), ((0,),))
        self.check_plan(plan_from([(1, 1), (0, 1), (0, 0), (1, 0)]), ((0,), (0, 1), (1,)))
        self.check_plan(plan_from([(0, 0), (0, 2), (3, 3), (1, 0)]), ((0,), (1,)))

    def test_the_counts_of_a_plan_in_whatever_order(self):
        source = random.Random(41)
        for plan in SMALL + PLANS:
            counts = list(plain_on(plan)) * source.randint(1, 3)
            source.shuffle(counts)
            self.check_plan(plan_from(counts), plan)

    def test_counts_by_chance(self):
        source = random.Random(42)
        for turn in range(300):
            counts = [(source.randint(0, 5), source.randint(0, 5)) for many in range(source.randint(0, 40))]
            counts.insert(source.randint(0, len(counts)), (0, 0))
            self.check_plan(plan_from(counts), plain_plan(counts))

    def test_what_is_not_come_to_is_left_out(self):
        far = [(0, 24), (24, 0), (12, 12), (30, 2), (0, 25), (LONG, LONG), (0, LONG), (LONG, 0)]
        for plan in (ONE_PLACE, WITH_GAPS):
            self.check_plan(plan_from(list(plain_on(plan)) + far), plan)
        thin = [(0, good) for good in range(24)]
        self.check_plan(plan_from(thin), GOOD_OF_24)
        self.check_plan(plan_from(thin + [(0, 25), (2, 22), (13, 11), (24, 0)]), GOOD_OF_24)
        self.check_plan(plan_from([(bad, 0) for bad in range(24)] + [(25, 0), (22, 2)]), BAD_OF_24)

    def test_without_the_first_count_there_is_no_plan(self):
        for counts in ([], [(0, 1)], [(1, 0), (0, 1), (1, 1)], [(LONG, LONG)]):
            with self.assertRaises(NoPlan):
                plan_from(counts)

    def test_too_long(self):
        thin = [(0, good) for good in range(25)]
        for counts in (thin, thin[::-1], thin + [(0, 25)], counts_up_to(24), counts_up_to(30),
                       [(bad, 0) for bad in range(25)], counts_up_to(23) + [(12, 12)],
                       [(0, good) for good in range(24)] + [(1, 23)]):
            with self.assertRaises(TooLong):
                plan_from(counts)

    def test_as_long_as_may_be(self):
        self.check_plan(plan_from(counts_up_to(23)), ALL_OF_24)

    def test_no_plan_comes_ahead_of_too_long(self):
        for counts in (counts_up_to(24)[1:], [(0, good) for good in range(1, 30)]):
            with self.assertRaises(NoPlan):
                plan_from(counts)

    def test_the_list_handed_in_stays(self):
        for counts in ([(1, 0), (0, 0), (0, 0), (5, 5)], [(2, 2), (0, 1)], [], counts_up_to(24)):
            kept = list(counts)
            try:
                plan_from(counts)
            except (NoPlan, TooLong):
                pass
            self.assertEqual(counts, kept)

    def test_a_plan_stays_when_its_list_is_changed(self):
        counts = [(0, 0), (0, 1)]
        plan = plan_from(counts)
        counts.append((1, 0))
        self.assertEqual(plan, ((0,), (0,)))
        self.assertEqual(plan_from([(0, 0)]), ((0,),))


def deep(thing, many):
    for turn in range(many):
        thing = (thing,)
    return thing


class IsPlan(unittest.TestCase):
    def test_plans(self):
        for plan in SMALL + PLANS:
            self.assertIs(is_plan(plan), True)

    def test_all_small_tables(self):
        places = [place for many in range(4) for place in itertools.product((-1, 0, 1, 2), repeat=many)]
        plans = set(SMALL)
        for many in range(3):
            for table in itertools.product(places, repeat=many):
                self.assertIs(is_plan(table), table in plans, table)
        for last in places:
            for middle in ((0,), (1,), (0, 1)):
                table = ((0,), middle, last)
                self.assertIs(is_plan(table), table in plans, table)

    def test_things_that_are_none(self):
        for thing in (
            (), ((),), ((0,), ()), ((), (0,)), ((0,), (), (0,)), ((1,),), ((0, 1),), ((0, 0),), ((-1,),), ((-1, 0),),
            ((0,), (1, 0)), ((0,), (0, 0)), ((0,), (1, 1)), ((0,), (2,)), ((0,), (0, 1, 2)), ((0,), (-1, 0)),
            ((0,), (0,), (2,)), ((0,), (1,), (0,)), ((0,), (0, 1), (0, 2), (0, 1, 2, 4)), ((0,), (0, 1), (2, 1, 0)),
            ((0,), (0, LONG)), ((LONG,),), ((-LONG,),), ((0,), (-LONG, 0)),
        ):
            self.assertIs(is_plan(thing), False, thing)

    def test_truths_are_no_numbers(self):
        for thing in (
            ((False,),), ((0,), (True,)), ((0,), (False,)), ((0,), (0, True)), ((0,), (False, 1)),
            ((0,), (False, True)), ((False,), (0, 1)), ((0,), (0, 1), (0, True, 2)), (False,), ((0,), True),
            True, False,
        ):
            self.assertIs(is_plan(thing), False, thing)

    def test_other_things(self):
        for thing in (
            None, 0, 1, -1, LONG, "", "0", "0|0 1", (None,), (0,), (0, 0), (0, 1), ("0",), ("",), ((0,), "0"),
            ((0,), None), ((0,), 0), ((0,), 1), (("0",),), ((None,),), ((0,), (0, None)), ((0,), (None, 1)),
            ((0,), ("0", 1)), ((0,), (0, "")), (((0,),),), ((0,), ((0,),)), ((0,), (0, (1,))), ((0,), (0, ())),
            ((0,), ((), 1)), (0, (0,)), ((0,), (0,), 1), ("a" * 300,),
        ):
            self.assertIs(is_plan(thing), False, thing)

    def test_one_thing_in_a_plan_put_in_anothers_stead(self):
        for plan in SMALL[:20] + [GAPS_OF_24, ALL_OF_24]:
            for draws, place in enumerate(plan):
                for at, bad in enumerate(place):
                    for thing in (None, "", str(bad), (bad,), -1, -bad - 1, bool(bad)):
                        row = place[:at] + (thing,) + place[at + 1:]
                        self.assertIs(is_plan(plan[:draws] + (row,) + plan[draws + 1:]), False)
                for thing in (None, "", str(place), place[0], (), (place,), place + place, place[:1] + place, True):
                    self.assertIs(is_plan(plan[:draws] + (thing,) + plan[draws + 1:]), False)

    def test_places_in_another_order(self):
        self.assertIs(is_plan(((0,), (0, 1), (1, 2))), True)
        self.assertIs(is_plan(((0,), (0, 1), (2, 1))), False)
        self.assertIs(is_plan(((0, 1), (0,), (1, 2))), False)

    def test_twenty_five_places(self):
        self.assertIs(is_plan(((0,),) * 24), True)
        self.assertIs(is_plan(((0,),) * 25), False)
        self.assertIs(is_plan(ALL_OF_24 + ((0,),)), False)
        self.assertIs(is_plan(BAD_OF_24 + ((24,),)), False)
        self.assertIs(is_plan(((0,),) * 250), False)

    def test_twenty_deep(self):
        for thing in (0, (), None, "0", True):
            for many in range(3, 21):
                self.assertIs(is_plan(deep(thing, many)), False)
                self.assertIs(is_plan(((0,), deep(thing, many - 1))), False)
                self.assertIs(is_plan(((0,), (0, deep(thing, many - 2)))), False)
        self.assertIs(is_plan(deep(0, 1)), False)
        self.assertIs(is_plan(deep(0, 2)), True)

    def test_five_hundred_things(self):
        self.assertIs(is_plan((0,) * 499), False)
        self.assertIs(is_plan((tuple(range(498)),)), False)
        self.assertIs(is_plan(((0,), tuple(range(496)))), False)
        self.assertIs(is_plan(((0,), (0,) * 496)), False)


if __name__ == "__main__":
    unittest.main()
