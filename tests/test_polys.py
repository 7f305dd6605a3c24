import copy
import random
import unittest
from fractions import Fraction

from lotdraw.fracs import frac
from lotdraw.polys import less, of_count, product, scaled, sum_of, worth

X = [(0, 1), (1, 1)]
ONE = [(1, 1)]


def shed(numbers):
    kept = list(numbers)
    while kept and kept[-1] == 0:
        kept.pop()
    return kept


def as_told(numbers):
    return [(number.numerator, number.denominator) for number in shed(numbers)]


def as_numbers(poly):
    return [Fraction(*fraction) for fraction in poly]


def number_at(numbers, place):
    return numbers[place] if place < len(numbers) else Fraction(0)


def plain_sum(one, other):
    return [number_at(one, place) + number_at(other, place) for place in range(max(len(one), len(other)))]


def plain_product(one, other):
    told = [Fraction(0)] * (len(one) + len(other))
    for place, number in enumerate(one):
        for shift, factor in enumerate(other):
            told[place + shift] += number * factor
    return told


def plain_worth(one, share):
    return sum((number * share ** place for place, number in enumerate(one)), Fraction(0))


def any_poly(source, length, most):
    told = [frac(source.randint(-most, most), source.randint(1, most)) for place in range(length)]
    if told and told[-1] == (0, 1):
        told[-1] = (1, most)
    return told


def some_polys():
    source = random.Random(21)
    told = [[], [(1, 1)], [(-1, 1)], [(2, 3)], X, [(0, 1), (0, 1), (-5, 7)], [(1, 1), (-1, 1)]]
    for length in (1, 2, 3, 4, 6, 9):
        for most in (1, 2, 9):
            told.append(any_poly(source, length, most))
    return told


class PolyCase(unittest.TestCase):
    def check_form(self, told):
        self.assertIs(type(told), list)
        for fraction in told:
            self.assertIs(type(fraction), tuple)
            self.assertEqual([type(part) for part in fraction], [int, int])
        self.assertFalse(told and told[-1] == (0, 1))

    def check(self, told, awaited):
        self.check_form(told)
        self.assertTrue(told == as_told(awaited), "not the polynomial awaited")

    def check_pair(self, one, other):
        ones = as_numbers(one)
        others = as_numbers(other)
        self.check(sum_of(one, other), plain_sum(ones, others))
        self.check(less(one, other), plain_sum(ones, [-number for number in others]))
        self.check(product(one, other), plain_product(ones, others))

    def check_share(self, one, share):
        ones = as_numbers(one)
        factor = Fraction(*share)
        self.check(scaled(one, share), [number * factor for number in ones])
        awaited = plain_worth(ones, factor)
        told = worth(one, share)
        self.assertIs(type(told), tuple)
        self.assertTrue(told == (awaited.numerator, awaited.denominator), "not the worth awaited")


class Deeds(PolyCase):
    def test_written_out(self):
        one = [(1, 2), (1, 3)]
        other = [(1, 2), (-1, 3), (2, 1)]
        self.assertEqual(sum_of(one, other), [(1, 1), (0, 1), (2, 1)])
        self.assertEqual(less(one, other), [(0, 1), (2, 3), (-2, 1)])
        self.assertEqual(less(other, one), [(0, 1), (-2, 3), (2, 1)])
        self.assertEqual(product(one, other), [(1, 4), (0, 1), (8, 9), (2, 3)])
        self.assertEqual(scaled(other, (3, 2)), [(3, 4), (-1, 2), (3, 1)])
        self.assertEqual(worth(other, (1, 2)), (5, 6))
        self.assertEqual(worth(other, (-1, 1)), (17, 6))

    def test_all_pairs(self):
        polys = some_polys()
        for one in polys:
            for other in polys:
                self.check_pair(one, other)

    def test_all_shares(self):
        for one in some_polys():
            for share in ((0, 1), (1, 1), (-1, 1), (1, 2), (-3, 7), (12, 5), (7, 1)):
                self.check_share(one, share)

    def test_the_one_that_is_nought_everywhere(self):
        one = [(1, 2), (0, 1), (-3, 4)]
        self.assertEqual(sum_of([], []), [])
        self.assertEqual(sum_of(one, []), one)
        self.assertEqual(sum_of([], one), one)
        self.assertEqual(less([], []), [])
        self.assertEqual(less(one, []), one)
        self.assertEqual(less([], one), [(-1, 2), (0, 1), (3, 4)])
        self.assertEqual(product([], []), [])
        self.assertEqual(product(one, []), [])
        self.assertEqual(product([], one), [])
        self.assertEqual(scaled([], (3, 7)), [])
        self.assertEqual(scaled([], (0, 1)), [])
        for share in ((0, 1), (1, 1), (-3, 7)):
            self.assertEqual(worth([], share), (0, 1))

    def test_what_falls_away_at_the_end(self):
        one = [(1, 2), (0, 1), (0, 1), (5, 3)]
        self.assertEqual(sum_of(one, [(0, 1), (0, 1), (0, 1), (-5, 3)]), [(1, 2)])
        self.assertEqual(less(one, [(1, 3), (0, 1), (0, 1), (5, 3)]), [(1, 6)])
        self.assertEqual(less(one, [(1, 2), (4, 1), (0, 1), (5, 3)]), [(0, 1), (-4, 1)])
        for poly in some_polys() + [one]:
            self.assertEqual(less(poly, poly), [])
            self.assertEqual(sum_of(poly, scaled(poly, (-1, 1))), [])
            self.assertEqual(scaled(poly, (0, 1)), [])

    def test_worth_at_nought_is_the_first_fraction(self):
        self.assertEqual(worth([(3, 7), (5, 2)], (0, 1)), (3, 7))
        self.assertEqual(worth(X, (0, 1)), (0, 1))


class Longest(PolyCase):
    def test_sixty_five_fractions(self):
        source = random.Random(22)
        one = any_poly(source, 65, 50)
        other = any_poly(source, 65, 50)
        self.check_pair(one, other)
        self.check_pair(one, one)
        self.check_pair(one, any_poly(source, 3, 50))
        self.check_share(one, (-7, 11))
        self.check_share(one, (0, 1))

    def test_nought_but_at_the_end(self):
        one = [(0, 1)] * 64 + [(2, 3)]
        self.assertEqual(product(one, one), [(0, 1)] * 128 + [(4, 9)])
        self.assertEqual(less(one, one), [])
        self.assertEqual(worth(one, (-1, 1)), (2, 3))

    def test_three_hundred_figures(self):
        source = random.Random(23)
        most = 10 ** 300 - 1
        for length in (1, 2, 5):
            one = any_poly(source, length, most)
            other = any_poly(source, length + 1, most)
            self.check_pair(one, other)
            self.check_share(one, frac(source.randint(-most, most), source.randint(1, most)))

    def test_long_in_both_ways(self):
        source = random.Random(24)
        most = 10 ** 300 - 1
        one = any_poly(source, 65, most)
        self.check(sum_of(one, one), [2 * number for number in as_numbers(one)])
        self.check_share(one, (5, 7))
        bottom = source.randint(1, most)
        whole = [frac(source.randint(1, most), bottom) for place in range(65)]
        self.check_pair(whole, whole[::-1])


class Kept(PolyCase):
    def deeds(self):
        return (
            lambda one, other: sum_of(one, other),
            lambda one, other: sum_of(other, one),
            lambda one, other: less(one, other),
            lambda one, other: less(other, one),
            lambda one, other: product(one, other),
            lambda one, other: scaled(one, (1, 1)),
            lambda one, other: scaled(one, (0, 1)),
            lambda one, other: [worth(one, (1, 2))],
        )

    def pairs(self):
        one = [(1, 2), (0, 1), (-3, 4)]
        return ((one, [(2, 1), (1, 3), (3, 4)]), (one, []), ([], []), (one, ONE), (one, [(0, 1), (5, 1), (-3, 4)]))

    def test_what_is_handed_in_stays_as_it_was(self):
        for one, other in self.pairs():
            for deed in self.deeds():
                mine = copy.deepcopy(one)
                yours = copy.deepcopy(other)
                deed(mine, yours)
                self.assertEqual((mine, yours), (one, other))

    def test_what_is_told_is_the_askers_own(self):
        for one, other in self.pairs():
            for deed in self.deeds():
                mine = copy.deepcopy(one)
                yours = copy.deepcopy(other)
                told = deed(mine, yours)
                awaited = list(told)
                told.append((99, 1))
                told[0] = (98, 1)
                self.assertEqual((mine, yours), (one, other))
                self.assertEqual(deed(mine, yours), awaited)

    def test_a_told_list_stays_when_more_is_asked_or_changed(self):
        one = [(1, 2), (3, 1)]
        told = sum_of(one, [])
        one[0] = (7, 1)
        sum_of(told, told)
        self.assertEqual(told, [(1, 2), (3, 1)])

    def test_one_list_handed_in_twice(self):
        one = [(1, 2), (3, 1)]
        self.assertEqual(sum_of(one, one), [(1, 1), (6, 1)])
        self.assertEqual(less(one, one), [])
        self.assertEqual(product(one, one), [(1, 4), (3, 1), (9, 1)])
        self.assertEqual(one, [(1, 2), (3, 1)])

    def test_counts_are_told_anew(self):
        told = of_count(2, 1)
        told[0] = (5, 1)
        told.append((5, 1))
        self.assertEqual(of_count(2, 1), [(0, 1), (0, 1), (1, 1), (-1, 1)])


class OfCount(PolyCase):
    def test_written_out(self):
        self.assertEqual(of_count(0, 0), [(1, 1)])
        self.assertEqual(of_count(1, 0), [(0, 1), (1, 1)])
        self.assertEqual(of_count(0, 1), [(1, 1), (-1, 1)])
        self.assertEqual(of_count(0, 3), [(1, 1), (-3, 1), (3, 1), (-1, 1)])
        self.assertEqual(of_count(2, 2), [(0, 1), (0, 1), (1, 1), (-2, 1), (1, 1)])

    def test_bad_alone(self):
        for bad in range(61):
            self.assertEqual(of_count(bad, 0), [(0, 1)] * bad + [(1, 1)])

    def test_good_alone(self):
        awaited = [Fraction(1)]
        for good in range(61):
            self.check(of_count(0, good), awaited)
            awaited = plain_product(awaited, [Fraction(1), Fraction(-1)])

    def test_all_counts_up_to_sixty(self):
        goods = []
        row = [1]
        for good in range(61):
            goods.append([((-1) ** place * number, 1) for place, number in enumerate(row)])
            row = [1] + [row[place] + row[place + 1] for place in range(good)] + [1]
        for bad in range(61):
            for good in range(61):
                told = of_count(bad, good)
                self.check_form(told)
                self.assertEqual(told, [(0, 1)] * bad + goods[good])

    def test_worth_of_a_count(self):
        for bad, good in ((0, 0), (3, 4), (60, 0), (0, 60), (60, 60), (17, 43)):
            told = worth(of_count(bad, good), (2, 7))
            awaited = Fraction(2, 7) ** bad * Fraction(5, 7) ** good
            self.assertEqual(told, (awaited.numerator, awaited.denominator))

    def test_counts_put_together(self):
        for bad, good in ((0, 0), (3, 4), (9, 0), (0, 9)):
            both = sum_of(of_count(bad + 1, good), of_count(bad, good + 1))
            self.assertEqual(both, of_count(bad, good))
            self.assertEqual(product(of_count(bad, good), of_count(2, 5)), of_count(bad + 2, good + 5))


if __name__ == "__main__":
    unittest.main()
