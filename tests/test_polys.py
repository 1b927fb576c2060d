"""Polynomials: promises 2, 8 and 9."""

import itertools
import math
import unittest

from manycounts.polys import exchanged, gathered, product_of, sum_of, to_power, worth_at
from samples import grid_poly, poly_by_dict

NOUGHT = ()
ONE = ((0, 0, 1),)
X = ((1, 0, 1),)
Y = ((0, 1, 1),)
MIXED = ((0, 0, 3), (0, 1, -1), (2, 1, 2))
SIXTY = 10**60 - 1
LONG = ((0, 0, SIXTY), (0, 60, -SIXTY), (59, 0, 1 - 10**59), (60, 60, SIXTY - 1))
FORTY = grid_poly(5, 8)
HUNDRED = grid_poly(10, 10, start=7)
POLYS = (NOUGHT, ONE, ((0, 0, -1),), X, Y, MIXED, ((1, 0, 1), (1, 1, -1)), LONG, FORTY, HUNDRED)
NUMBERS = (0, 1, -1, 2, -2, 3, 10, -17, 10**20, SIXTY, -SIXTY)


def worth_by_powers(poly, x, y):
    return sum(times * x**i * y**j for i, j, times in poly)


class PolyCase(unittest.TestCase):
    def assert_poly(self, told, wanted):
        self.assertEqual(told, wanted)
        self.assert_form(told)

    def assert_form(self, poly):
        self.assertIs(type(poly), tuple)
        for term in poly:
            self.assertIs(type(term), tuple)
            self.assertEqual([type(number) for number in term], [int, int, int])
            self.assertNotEqual(term[2], 0)
            self.assertGreaterEqual(min(term[:2]), 0)
        powers = [term[:2] for term in poly]
        self.assertEqual(powers, sorted(set(powers)))


class Gathered(PolyCase):
    def test_an_ordinary_list(self):
        terms = [(2, 1, 5), (0, 1, -1), (2, 1, -3), (0, 0, 3)]
        self.assert_poly(gathered(terms), MIXED)

    def test_whatever_the_lists_order(self):
        terms = [(1, 0, 2), (0, 1, 3), (1, 0, -1), (0, 0, 0), (10, 0, 4), (2, 0, 5)]
        wanted = ((0, 1, 3), (1, 0, 1), (2, 0, 5), (10, 0, 4))
        for order in itertools.permutations(terms):
            self.assert_poly(gathered(list(order)), wanted)

    def test_nothing_is_nought(self):
        self.assert_poly(gathered([]), NOUGHT)

    def test_times_0_do_not_stand(self):
        self.assert_poly(gathered([(0, 0, 0)]), NOUGHT)
        self.assert_poly(gathered([(3, 4, 0), (1, 1, 1), (3, 4, 0)]), ((1, 1, 1),))

    def test_times_that_come_to_0_do_not_stand(self):
        self.assert_poly(gathered([(1, 2, 5), (1, 2, -5)]), NOUGHT)
        self.assert_poly(gathered([(1, 2, 5), (2, 1, 5), (1, 2, -2), (1, 2, -3)]), ((2, 1, 5),))

    def test_times_that_come_to_0_on_the_way_may_stand(self):
        self.assert_poly(gathered([(1, 2, 5), (1, 2, -5), (1, 2, 5)]), ((1, 2, 5),))

    def test_i_and_j_are_not_exchanged(self):
        self.assert_poly(gathered([(1, 0, 2), (0, 1, 3)]), ((0, 1, 3), (1, 0, 2)))

    def test_sorted_as_numbers(self):
        terms = [(i, 60 - i, i + 1) for i in range(60, -1, -1)]
        self.assert_poly(gathered(terms), tuple(terms[::-1]))

    def test_numbers_of_many_figures(self):
        self.assert_poly(gathered([(0, 1, SIXTY), (0, 1, SIXTY)]), ((0, 1, 2 * SIXTY),))
        self.assert_poly(gathered([(0, 1, SIXTY), (0, 1, 1 - SIXTY)]), Y)
        self.assert_poly(gathered([(0, 1, -SIXTY), (60, 0, SIXTY)]), ((0, 1, -SIXTY), (60, 0, SIXTY)))

    def test_many_terms_as_made_another_way(self):
        terms = [(k * 7 % 10, k * 3 % 11, k % 13 - 6) for k in range(300)]
        self.assert_poly(gathered(terms), poly_by_dict(terms))
        self.assertGreater(len(gathered(terms)), 40)

    def test_a_polynomial_is_gathered_as_itself(self):
        for poly in POLYS:
            self.assert_poly(gathered(list(poly)), poly)
            self.assert_poly(gathered(list(poly)[::-1]), poly)

    def test_the_list_handed_in_stays_and_is_not_kept(self):
        terms = [(2, 1, 5), (0, 1, -1), (2, 1, -3), (0, 0, 3), (9, 9, 0)]
        before = list(terms)
        told = gathered(terms)
        self.assertEqual(terms, before)
        terms.clear()
        self.assertEqual(told, MIXED)
        self.assertEqual(gathered(before), MIXED)


class Sums(PolyCase):
    def test_ordinary_sums(self):
        self.assert_poly(sum_of(MIXED, ((0, 1, 4), (1, 0, 1))), ((0, 0, 3), (0, 1, 3), (1, 0, 1), (2, 1, 2)))
        self.assert_poly(sum_of(X, Y), ((0, 1, 1), (1, 0, 1)))

    def test_terms_that_go_away(self):
        self.assert_poly(sum_of(MIXED, ((0, 1, 1), (2, 1, -2))), ((0, 0, 3),))
        for poly in POLYS:
            self.assert_poly(sum_of(poly, tuple((i, j, -times) for i, j, times in poly)), NOUGHT)

    def test_with_nought(self):
        for poly in POLYS:
            self.assert_poly(sum_of(poly, NOUGHT), poly)
            self.assert_poly(sum_of(NOUGHT, poly), poly)

    def test_as_made_another_way(self):
        for one, other in itertools.product(POLYS, repeat=2):
            self.assert_poly(sum_of(one, other), poly_by_dict(one + other))


class Products(PolyCase):
    def test_ordinary_products(self):
        self.assert_poly(product_of(X, Y), ((1, 1, 1),))
        self.assert_poly(product_of(((0, 0, -1), (1, 0, 1)), ((0, 0, 1), (1, 0, 1))), ((0, 0, -1), (2, 0, 1)))
        self.assert_poly(product_of(MIXED, ((0, 1, 2), (1, 0, -1))), (
            (0, 1, 6), (0, 2, -2), (1, 0, -3), (1, 1, 1), (2, 2, 4), (3, 1, -2)))

    def test_with_nought_and_1(self):
        for poly in POLYS:
            self.assert_poly(product_of(poly, NOUGHT), NOUGHT)
            self.assert_poly(product_of(NOUGHT, poly), NOUGHT)
            self.assert_poly(product_of(poly, ONE), poly)
            self.assert_poly(product_of(ONE, poly), poly)

    def test_as_made_another_way(self):
        few = [poly for poly in POLYS if len(poly) <= 40]
        for one, other in itertools.product(few, repeat=2):
            terms = [(a[0] + b[0], a[1] + b[1], a[2] * b[2]) for a in one for b in other]
            self.assert_poly(product_of(one, other), poly_by_dict(terms))

    def test_a_hundred_terms(self):
        told = product_of(HUNDRED, HUNDRED)
        self.assert_form(told)
        for x, y in ((2, 3), (-5, 7), (10**9, -(10**30)), (SIXTY, SIXTY)):
            self.assertEqual(worth_by_powers(told, x, y), worth_by_powers(HUNDRED, x, y) ** 2)


class Powers(PolyCase):
    def test_the_power_0_is_1(self):
        for poly in POLYS:
            self.assert_poly(to_power(poly, 0), ONE)

    def test_nought(self):
        for k in range(1, 21):
            self.assert_poly(to_power(NOUGHT, k), NOUGHT)

    def test_the_power_1_is_itself(self):
        for poly in POLYS:
            self.assert_poly(to_power(poly, 1), poly)

    def test_powers_of_x_plus_y_and_x_less_1(self):
        for k in range(21):
            wanted = tuple((i, k - i, math.comb(k, i)) for i in range(k + 1))
            self.assert_poly(to_power(((0, 1, 1), (1, 0, 1)), k), wanted)
            wanted = tuple((i, 0, math.comb(k, i) * (-1) ** (k - i)) for i in range(k + 1))
            self.assert_poly(to_power(((0, 0, -1), (1, 0, 1)), k), wanted)

    def test_powers_of_three_terms(self):
        for k in range(21):
            told = to_power(((0, 0, 1), (0, 1, -2), (1, 0, 3)), k)
            places = [(i, j) for i in range(k + 1) for j in range(k + 1 - i)]
            wanted = [(i, j, math.comb(k, i) * math.comb(k - i, j) * 3**i * (-2) ** j) for i, j in places]
            self.assert_poly(told, tuple(wanted))

    def test_numbers_of_many_figures(self):
        for k in range(21):
            self.assert_poly(to_power(((3, 2, -SIXTY),), k), ((3 * k, 2 * k, (-SIXTY) ** k),))

    def test_forty_terms(self):
        row = tuple((0, j, j - 50) for j in range(40))
        told = to_power(row, 20)
        self.assert_form(told)
        for y in (1, -1, 2, -3, 10**40):
            self.assertEqual(worth_by_powers(told, 5, y), worth_by_powers(row, 5, y) ** 20)


class Exchanged(PolyCase):
    def test_an_ordinary_polynomial(self):
        self.assert_poly(exchanged(MIXED), ((0, 0, 3), (1, 0, -1), (1, 2, 2)))
        self.assert_poly(exchanged(X), Y)
        self.assert_poly(exchanged(NOUGHT), NOUGHT)

    def test_the_form(self):
        for poly in POLYS:
            self.assert_poly(exchanged(poly), tuple(sorted((j, i, times) for i, j, times in poly)))
            self.assert_poly(exchanged(exchanged(poly)), poly)


class Worths(unittest.TestCase):
    def test_ordinary_worths(self):
        self.assertEqual(worth_at(MIXED, 2, 5), 38)
        self.assertEqual(worth_at(MIXED, -2, -5), -32)
        self.assertEqual(worth_at(X, 7, 9), 7)
        self.assertEqual(worth_at(Y, 7, 9), 9)

    def test_nought(self):
        for x, y in itertools.product(NUMBERS, repeat=2):
            self.assertEqual(worth_at(NOUGHT, x, y), 0)
            self.assertIs(type(worth_at(NOUGHT, x, y)), int)

    def test_0_to_the_power_0_is_1(self):
        self.assertEqual(worth_at(ONE, 0, 0), 1)
        self.assertEqual(worth_at(MIXED, 0, 0), 3)
        self.assertEqual(worth_at(((0, 3, 4), (3, 0, 5)), 0, 2), 32)
        self.assertEqual(worth_at(((0, 3, 4), (3, 0, 5)), 2, 0), 40)

    def test_as_made_another_way(self):
        for poly in POLYS:
            for x, y in itertools.product(NUMBERS, repeat=2):
                self.assertTrue(worth_at(poly, x, y) == worth_by_powers(poly, x, y), (poly, x, y))

    def test_sums_products_and_the_exchanged(self):
        few = (NOUGHT, ONE, X, Y, MIXED, LONG, FORTY)
        for one, other in itertools.product(few, repeat=2):
            for x, y in ((0, 0), (0, 3), (-2, 5), (SIXTY, -SIXTY)):
                a, b = worth_at(one, x, y), worth_at(other, x, y)
                self.assertTrue(worth_at(sum_of(one, other), x, y) == a + b)
                self.assertTrue(worth_at(product_of(one, other), x, y) == a * b)
                self.assertTrue(worth_at(exchanged(one), y, x) == a)

    def test_unlike_polynomials_have_unlike_worths(self):
        for one, other in itertools.combinations(POLYS, 2):
            pairs = itertools.product(NUMBERS, repeat=2)
            self.assertTrue(any(worth_at(one, x, y) != worth_at(other, x, y) for x, y in pairs))


if __name__ == "__main__":
    unittest.main()
