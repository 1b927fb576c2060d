"""Webs put together: promises 2, 3, 26, 27 and 28."""

import functools
import itertools
import unittest

from manycounts.clusters import rank_of
from manycounts.errors import NoOrder, NoPlaces, NoPoint, NotApart, TooMany
from manycounts.gluing import laid_at, laid_beside, renumbered, reordered, turned_over
from manycounts.polys import product_of
from manycounts.steps import by_leaving
from manycounts.stretches import by_trees
from manycounts.tables import by_picks
from manycounts.trees import all_trees
from samples import (
    ALL_KINDS,
    EACH_WITH_EACH,
    EIGHT_CURLS,
    EIGHT_TWINS,
    LONE_POINT,
    LOOSE_POINTS,
    PATH_OF_NINE,
    PLAIN_AND_MORE,
    SAMPLES,
    SQUARE_WITH_A_BAR,
    TRIANGLE,
    TWIN_AND_CURL,
    TWO_PARTS,
    WHEEL,
    every_order,
    jumbled_webs,
    many_webs,
    picks_by_mask,
    poly_by_picks,
    rank_by_walking,
    small_webs,
    some_orders,
    trees_by_walking,
    wrong_orders,
    wrong_places,
    wrong_points,
)

ONE_CURL = (1, ((0, 0),))
ONE_BRIDGE = (2, ((0, 1),))
# A square, two of its corners joined besides by two ways and a tie of their own, and curls here and there.
HANDLES = (5, ((0, 1), (0, 2), (1, 2), (0, 3), (1, 3), (2, 2), (0, 1), (3, 3)))
CURL_AND_TWIN = (2, ((0, 0), (0, 1), (0, 1)))
PARTS = (TRIANGLE, TWIN_AND_CURL, LONE_POINT, ONE_CURL, ONE_BRIDGE, (3, ()), CURL_AND_TWIN, (4, ((0, 3),)))


def undone(numbers):
    """What undoes places or an order."""
    back = [None] * len(numbers)
    for at, number in enumerate(numbers):
        back[number] = at
    return back


def is_web(thing):
    """Whether a web is told in its form."""
    points, ties = thing
    whole = type(thing) is tuple and type(points) is int and type(ties) is tuple
    ends = [end for tie in ties for end in tie]
    return whole and all(type(tie) is tuple and len(tie) == 2 and tie[0] <= tie[1] for tie in ties) and all(
        type(end) is int and 0 <= end < points for end in ends)


def renumbered_by_words(web, places):
    return (web[0], tuple(tuple(sorted((places[a], places[b]))) for a, b in web[1]))


def laid_at_by_words(one, p, other, q):
    """The second one's point becomes the first one's, its other points follow behind, in their order."""
    becomes = {q: p}
    behind = one[0]
    for point in range(other[0]):
        if point != q:
            becomes[point] = behind
            behind += 1
    return (behind, one[1] + tuple(tuple(sorted((becomes[a], becomes[b]))) for a, b in other[1]))


def not_apart_by_words(web, pick, u, v):
    """The points other than u and v that are ends both of a tie of the pick and of one that is not in it."""
    inside = {end for k, tie in enumerate(web[1]) for end in tie if k in pick}
    outside = {end for k, tie in enumerate(web[1]) for end in tie if k not in pick}
    return sorted(inside & outside - {u, v})


def turned_by_words(web, pick, u, v):
    other = {u: v, v: u}
    ties = []
    for k, (a, b) in enumerate(web[1]):
        if k in pick:
            a, b = other.get(a, a), other.get(b, b)
        ties.append((min(a, b), max(a, b)))
    return (web[0], tuple(ties))


@functools.cache
def ranks_by_walking(web):
    """The ranks of all picks of a web."""
    return [rank_by_walking(web, pick) for pick in picks_by_mask(web)]


def pairs_of_webs():
    """Two webs each that fit together, at a point and side by side."""
    few = list(PARTS) + list(small_webs())[::17] + list(jumbled_webs())[::6]
    for one, other in itertools.product(few, PARTS):
        if one[0] + other[0] <= 9 and len(one[1]) + len(other[1]) <= 8:
            yield one, other
            yield other, one


class Renumbered(unittest.TestCase):
    def test_known_webs(self):
        self.assertEqual(renumbered(TWIN_AND_CURL, [2, 0, 1]), (3, ((0, 2), (0, 2), (1, 1))))
        self.assertEqual(renumbered(TRIANGLE, (2, 1, 0)), (3, ((1, 2), (0, 2), (0, 1))))
        self.assertEqual(renumbered((4, ((0, 3), (1, 2))), [1, 2, 3, 0]), (4, ((0, 1), (2, 3))))
        self.assertEqual(renumbered(LONE_POINT, [0]), LONE_POINT)
        self.assertEqual(renumbered(EIGHT_CURLS, (0,)), EIGHT_CURLS)

    def test_as_the_words_say(self):
        for web in many_webs():
            for places in some_orders(web[0]):
                told = renumbered(web, places)
                self.assertTrue(is_web(told))
                self.assertEqual(told, renumbered_by_words(web, places))
                self.assertEqual(renumbered(web, tuple(places)), told)
                self.assertEqual(renumbered(told, undone(places)), web)

    def test_the_polynomial_stays(self):
        for web in (PLAIN_AND_MORE, ALL_KINDS, WHEEL, TWO_PARTS, HANDLES, TWIN_AND_CURL, PATH_OF_NINE):
            poly = by_picks(web)
            for places in some_orders(web[0])[::2]:
                told = renumbered(web, places)
                self.assertEqual([by_picks(told), by_leaving(told), by_trees(told)], [poly] * 3)
                self.assertEqual(all_trees(told), all_trees(web))

    def test_wrong_places(self):
        for web in SAMPLES + (SQUARE_WITH_A_BAR,):
            for places in wrong_places(web):
                with self.subTest(web=web, places=places), self.assertRaises(NoPlaces):
                    renumbered(web, places)

    def test_what_is_handed_in_stays(self):
        places = [2, 0, 1]
        told = renumbered(TWIN_AND_CURL, places)
        self.assertEqual(places, [2, 0, 1])
        places.clear()
        self.assertEqual(told, (3, ((0, 2), (0, 2), (1, 1))))


class Reordered(unittest.TestCase):
    def test_known_webs(self):
        self.assertEqual(reordered(TWIN_AND_CURL, [2, 0, 1]), (3, ((2, 2), (0, 1), (0, 1))))
        self.assertEqual(reordered(TRIANGLE, (1, 2, 0)), (3, ((0, 2), (1, 2), (0, 1))))
        self.assertEqual(reordered(LOOSE_POINTS, []), LOOSE_POINTS)

    def test_as_the_words_say(self):
        for web in many_webs():
            for order in some_orders(len(web[1])):
                told = reordered(web, order)
                self.assertTrue(is_web(told))
                self.assertEqual(told, (web[0], tuple(web[1][k] for k in order)))
                self.assertEqual(reordered(web, tuple(order)), told)
                self.assertEqual(reordered(told, undone(order)), web)

    def test_left_out_or_none_the_order_leaves_it(self):
        for web in many_webs():
            self.assertEqual(reordered(web), web)
            self.assertEqual(reordered(web, None), web)
            self.assertEqual(reordered(web, order=None), web)

    def test_the_polynomial_stays(self):
        for web in (PLAIN_AND_MORE, ALL_KINDS, WHEEL, TWO_PARTS, HANDLES, TWIN_AND_CURL, PATH_OF_NINE):
            poly = by_picks(web)
            for order in some_orders(len(web[1]))[::2]:
                told = reordered(web, order)
                self.assertEqual([by_picks(told), by_leaving(told), by_trees(told)], [poly] * 3)

    def test_wrong_orders(self):
        for web in SAMPLES + (SQUARE_WITH_A_BAR,):
            for order in wrong_orders(web):
                with self.subTest(web=web, order=order), self.assertRaises(NoOrder):
                    reordered(web, order)

    def test_what_is_handed_in_stays(self):
        order = [2, 0, 1]
        told = reordered(TWIN_AND_CURL, order)
        self.assertEqual(order, [2, 0, 1])
        order.clear()
        self.assertEqual(told, (3, ((2, 2), (0, 1), (0, 1))))


class LaidBeside(unittest.TestCase):
    def test_known_webs(self):
        self.assertEqual(laid_beside(TRIANGLE, TWIN_AND_CURL), (6, TRIANGLE[1] + ((3, 4), (3, 4), (5, 5))))
        self.assertEqual(laid_beside(TWIN_AND_CURL, TRIANGLE), (6, TWIN_AND_CURL[1] + ((3, 4), (3, 5), (4, 5))))
        self.assertEqual(laid_beside(LONE_POINT, TRIANGLE), (4, ((1, 2), (1, 3), (2, 3))))
        self.assertEqual(laid_beside(TRIANGLE, LONE_POINT), (4, TRIANGLE[1]))
        self.assertEqual(laid_beside(LONE_POINT, LONE_POINT), (2, ()))
        self.assertEqual(laid_beside(EIGHT_CURLS, (8, ())), (9, EIGHT_CURLS[1]))

    def test_as_the_words_say(self):
        for one, other in pairs_of_webs():
            told = laid_beside(one, other)
            raised = tuple((one[0] + a, one[0] + b) for a, b in other[1])
            self.assertTrue(is_web(told))
            self.assertEqual(told, (one[0] + other[0], one[1] + raised))

    def test_the_product_of_both_and_each_tree_with_each(self):
        for one, other in pairs_of_webs():
            assert_put_together(self, one, other, laid_beside(one, other))

    def test_too_many(self):
        for one, other in ((EIGHT_CURLS, ONE_CURL), (ONE_CURL, EIGHT_CURLS), (LOOSE_POINTS, LONE_POINT),
                           (LONE_POINT, LOOSE_POINTS), (PATH_OF_NINE, PATH_OF_NINE), (WHEEL, WHEEL)):
            with self.subTest(one=one, other=other), self.assertRaises(TooMany):
                laid_beside(one, other)

    def test_just_as_many_as_may_be(self):
        for points in range(1, 9):
            self.assertEqual(laid_beside((points, ()), (9 - points, ())), LOOSE_POINTS)
            with self.assertRaises(TooMany):
                laid_beside((points, ()), (10 - points, ()))
        for ties in range(9):
            one, other = (1, ((0, 0),) * ties), (1, ((0, 0),) * (8 - ties))
            self.assertEqual(laid_beside(one, other), (2, ((0, 0),) * ties + ((1, 1),) * (8 - ties)))
        for ties in range(1, 9):
            with self.assertRaises(TooMany):
                laid_beside((1, ((0, 0),) * ties), (1, ((0, 0),) * (9 - ties)))


class LaidAt(unittest.TestCase):
    def test_known_webs(self):
        self.assertEqual(laid_at(TRIANGLE, 1, ONE_BRIDGE, 0), (4, TRIANGLE[1] + ((1, 3),)))
        self.assertEqual(laid_at(TRIANGLE, 1, ONE_BRIDGE, 1), (4, TRIANGLE[1] + ((1, 3),)))
        self.assertEqual(laid_at(TRIANGLE, 2, TRIANGLE, 1), (5, TRIANGLE[1] + ((2, 3), (3, 4), (2, 4))))
        self.assertEqual(laid_at(TRIANGLE, 0, TWIN_AND_CURL, 2), (5, TRIANGLE[1] + ((3, 4), (3, 4), (0, 0))))
        self.assertEqual(laid_at(LONE_POINT, 0, TRIANGLE, 2), (3, ((1, 2), (0, 1), (0, 2))))
        self.assertEqual(laid_at(TRIANGLE, 2, LONE_POINT, 0), TRIANGLE)
        self.assertEqual(laid_at(LONE_POINT, 0, LONE_POINT, 0), LONE_POINT)
        self.assertEqual(laid_at(LOOSE_POINTS, 4, EIGHT_CURLS, 0), (9, ((4, 4),) * 8))

    def test_as_the_words_say(self):
        for one, other in pairs_of_webs():
            for p, q in itertools.product(range(one[0]), range(other[0])):
                told = laid_at(one, p, other, q)
                self.assertTrue(is_web(told))
                self.assertEqual(told, laid_at_by_words(one, p, other, q))

    def test_the_product_of_both_and_each_tree_with_each(self):
        for one, other in list(pairs_of_webs())[::3]:
            for p, q in itertools.product(range(one[0]), range(other[0])):
                assert_put_together(self, one, other, laid_at(one, p, other, q))

    def test_no_point_of_the_first_then_of_the_second(self):
        for one, other in ((TRIANGLE, ONE_BRIDGE), (LONE_POINT, PLAIN_AND_MORE), (EIGHT_CURLS, LOOSE_POINTS)):
            for wrong in wrong_points(one):
                with self.subTest(one=one, wrong=wrong), self.assertRaises(NoPoint):
                    laid_at(one, wrong, other, 0)
            for wrong in wrong_points(other):
                with self.subTest(other=other, wrong=wrong), self.assertRaises(NoPoint):
                    laid_at(one, 0, other, wrong)

    def test_each_point_is_one_of_its_own_web(self):
        self.assertEqual(laid_at((4, ()), 3, ONE_BRIDGE, 1), (5, ((3, 4),)))
        for p, q in ((1, 3), (2, 0), (3, 1), (2, 2)):
            with self.assertRaises(NoPoint):
                laid_at(ONE_BRIDGE, p, (3, ()), q)

    def test_no_point_goes_ahead_of_too_many(self):
        for one, other in ((LOOSE_POINTS, ONE_BRIDGE), (EIGHT_CURLS, ONE_CURL), (WHEEL, WHEEL)):
            with self.assertRaises(TooMany):
                laid_at(one, 0, other, 0)
            for p, q in ((one[0], 0), (0, other[0]), (True, 0), (0, False), (None, None), (-1, 0), (0, "0")):
                with self.subTest(one=one, p=p, q=q), self.assertRaises(NoPoint):
                    laid_at(one, p, other, q)

    def test_just_as_many_as_may_be(self):
        for points in range(1, 10):
            self.assertEqual(laid_at((points, ()), points - 1, (10 - points, ()), 0), LOOSE_POINTS)
        for points in range(2, 10):
            with self.assertRaises(TooMany):
                laid_at((points, ()), 0, (11 - points, ()), 0)
        for ties in range(1, 8):
            one = (2, ((0, 1),) * ties)
            self.assertEqual(laid_at(one, 1, (1, ((0, 0),) * (8 - ties)), 0), (2, one[1] + ((1, 1),) * (8 - ties)))
            with self.assertRaises(TooMany):
                laid_at(one, 1, (1, ((0, 0),) * (9 - ties)), 0)


def assert_put_together(test, one, other, told):
    """The polynomial is the product of both, the trees are each tree of the first with each of the second."""
    test.assertEqual(by_picks(told), product_of(by_picks(one), by_picks(other)))
    many = len(one[1])
    wanted = [tree + tuple(many + k for k in behind) for tree in all_trees(one) for behind in all_trees(other)]
    test.assertEqual(all_trees(told), sorted(wanted))


class TurnedOver(unittest.TestCase):
    def test_known_webs(self):
        self.assertEqual(turned_over(TRIANGLE, (0,), 0, 1), TRIANGLE)
        self.assertEqual(turned_over(TRIANGLE, (1, 2), 0, 1), (3, ((0, 1), (1, 2), (0, 2))))
        self.assertEqual(turned_over((4, ((0, 2), (1, 2), (0, 3), (0, 0))), (0, 1, 3), 0, 1),
                         (4, ((1, 2), (0, 2), (0, 3), (1, 1))))
        self.assertEqual(turned_over(EIGHT_TWINS, (0, 3, 7), 1, 0), EIGHT_TWINS)
        self.assertEqual(turned_over(HANDLES, (1, 2, 5), 0, 1),
                         (5, ((0, 1), (1, 2), (0, 2), (0, 3), (1, 3), (2, 2), (0, 1), (3, 3))))
        self.assertEqual(turned_over(LOOSE_POINTS, (), 3, 8), LOOSE_POINTS)

    def test_no_ties_leave_the_web_and_all_renumber_it(self):
        for web in many_webs():
            for u, v in itertools.permutations(range(web[0]), 2):
                self.assertEqual(turned_over(web, (), u, v), web)
                places = list(range(web[0]))
                places[u], places[v] = v, u
                self.assertEqual(turned_over(web, tuple(range(len(web[1]))), u, v), renumbered_by_words(web, places))

    def test_a_curl_at_one_of_both_points_goes_to_the_other(self):
        web = (3, ((0, 0), (0, 1), (1, 1), (2, 2)))
        self.assertEqual(turned_over(web, (0,), 0, 1), (3, ((1, 1), (0, 1), (1, 1), (2, 2))))
        self.assertEqual(turned_over(web, (0, 2), 1, 0), (3, ((1, 1), (0, 1), (0, 0), (2, 2))))
        self.assertEqual(turned_over(web, (3,), 0, 1), web)
        self.assertEqual(turned_over(web, (3,), 2, 0), (3, ((0, 0), (0, 1), (1, 1), (0, 0))))

    def test_as_the_words_say(self):
        named = [HANDLES, WHEEL, PLAIN_AND_MORE, SQUARE_WITH_A_BAR, EACH_WITH_EACH, ALL_KINDS, TWO_PARTS]
        turned = refused = 0
        for web in named + list(small_webs()):
            for pick in picks_by_mask(web):
                for u, v in itertools.permutations(range(web[0]), 2):
                    wanted = not_apart_by_words(web, pick, u, v)
                    if wanted:
                        refused += 1
                        with self.assertRaises(NotApart) as caught:
                            turned_over(web, pick, u, v)
                        self.assertEqual(caught.exception.point, wanted[0])
                        self.assertIs(type(caught.exception.point), int)
                    else:
                        turned += 1
                        self.assert_turned(web, pick, u, v)
        self.assertGreater(min(turned, refused), 1000)

    def assert_turned(self, web, pick, u, v):
        told = turned_over(web, pick, u, v)
        self.assertTrue(is_web(told))
        self.assertEqual(told, turned_by_words(web, pick, u, v))
        self.assertEqual(turned_over(web, pick, v, u), told)
        self.assertEqual(turned_over(told, pick, u, v), web)

    def test_each_pick_has_the_same_rank_in_both(self):
        for web in (HANDLES, PLAIN_AND_MORE, SQUARE_WITH_A_BAR, ALL_KINDS, TWO_PARTS, TRIANGLE, TWIN_AND_CURL):
            for pick in picks_by_mask(web):
                for u, v in itertools.combinations(range(web[0]), 2):
                    if not not_apart_by_words(web, pick, u, v):
                        self.assert_same_ranks(web, turned_over(web, pick, u, v))

    def assert_same_ranks(self, web, told):
        if told != web:
            self.assertEqual([rank_of(told, one) for one in picks_by_mask(web)], ranks_by_walking(web))
            self.assertEqual(by_picks(told), by_picks(web))
            self.assertEqual(all_trees(told), all_trees(web))

    def test_no_point(self):
        for web in (TRIANGLE, LONE_POINT, EIGHT_CURLS, EIGHT_TWINS, LOOSE_POINTS, HANDLES):
            pick = tuple(range(len(web[1])))
            for wrong in wrong_points(web):
                for u, v in ((wrong, 0), (0, wrong), (wrong, wrong)):
                    for part in ((), pick, pick[:1]):
                        with self.subTest(web=web, u=u, v=v), self.assertRaises(NoPoint):
                            turned_over(web, part, u, v)

    def test_one_point_twice(self):
        for web in SAMPLES:
            for point in range(web[0]):
                with self.assertRaises(NoPoint):
                    turned_over(web, (), point, point)

    def test_no_point_goes_ahead_of_not_apart(self):
        with self.assertRaises(NotApart):
            turned_over(TRIANGLE, (1,), 0, 1)
        for u, v in ((0, 0), (0, 3), (3, 0), (True, 0), (0, True), (False, True), (0, None), (-1, 0)):
            with self.subTest(u=u, v=v), self.assertRaises(NoPoint):
                turned_over(TRIANGLE, (1,), u, v)

    def test_the_least_point_that_is_not_apart(self):
        for pick, u, v, point in (((0,), 7, 8, 1), ((0, 4), 1, 5, 4), ((7,), 0, 1, 7), ((1, 3, 5), 1, 2, 3)):
            with self.assertRaises(NotApart) as caught:
                turned_over(PATH_OF_NINE, pick, u, v)
            self.assertEqual(caught.exception.point, point)

    def test_a_curl_hangs_on_the_rest_too(self):
        for pick in ((0,), (1,)):
            with self.assertRaises(NotApart) as caught:
                turned_over((3, ((2, 2), (0, 2))), pick, 0, 1)
            self.assertEqual(caught.exception.point, 2)


class Samples(unittest.TestCase):
    def test_the_program_and_the_tests_have_one_polynomial(self):
        for web in (HANDLES,) + PARTS:
            self.assertEqual(by_picks(web), poly_by_picks(web))
            self.assertEqual(all_trees(web), trees_by_walking(web))

    def test_every_numbering_of_a_few_webs(self):
        for web in (SQUARE_WITH_A_BAR, PLAIN_AND_MORE):
            for places, order in itertools.product(every_order(web[0]), every_order(len(web[1]))[::11]):
                self.assertEqual(by_picks(reordered(renumbered(web, places), order)), by_picks(web))


if __name__ == "__main__":
    unittest.main()
