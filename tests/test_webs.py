"""Webs and their picks: promises 2, 4 and 5."""

import itertools
import unittest

from manycounts.errors import NoTie, NoWeb, TooMany
from manycounts.webs import all_picks, made_web
from samples import (
    EIGHT_CURLS,
    FAR_NUMBERS,
    LONE_POINT,
    LOOSE_POINTS,
    ODD_THINGS,
    SAMPLES,
    TRIANGLE,
    picks_by_mask,
    small_webs,
)


class MadeWebs(unittest.TestCase):
    def assert_no_tie(self, at, points, ties):
        with self.assertRaises(NoTie) as caught:
            made_web(points, ties)
        self.assertIs(type(caught.exception), NoTie)
        self.assertEqual(caught.exception.at, at)
        self.assertIs(type(caught.exception.at), int)

    def test_an_ordinary_web(self):
        self.assertEqual(made_web(3, [(0, 1), (0, 1), (2, 2)]), (3, ((0, 1), (0, 1), (2, 2))))

    def test_either_end_first(self):
        self.assertEqual(made_web(4, [(3, 0), (0, 3), (2, 1)]), (4, ((0, 3), (0, 3), (1, 2))))

    def test_every_pair_of_points(self):
        for points in range(1, 10):
            for a, b in itertools.product(range(points), repeat=2):
                wanted = (points, ((min(a, b), max(a, b)),))
                self.assertEqual(made_web(points, [(a, b)]), wanted)

    def test_a_list_or_a_tuple(self):
        for web in SAMPLES:
            self.assertEqual(made_web(web[0], list(web[1])), web)
            self.assertEqual(made_web(web[0], web[1]), web)

    def test_tuples_are_told(self):
        for ties in ([], (), [(1, 0)], ((1, 0),)):
            web = made_web(2, ties)
            self.assertIs(type(web), tuple)
            self.assertIs(type(web[1]), tuple)
            for tie in web[1]:
                self.assertIs(type(tie), tuple)

    def test_ties_keep_their_order(self):
        ties = [(2, 1), (0, 0), (1, 0), (1, 2)]
        self.assertEqual(made_web(3, ties), (3, ((1, 2), (0, 0), (0, 1), (1, 2))))

    def test_one_point_and_nine(self):
        self.assertEqual(made_web(1, []), LONE_POINT)
        self.assertEqual(made_web(9, ()), LOOSE_POINTS)
        self.assertEqual(made_web(9, [(8, 0), (8, 8)]), (9, ((0, 8), (8, 8))))

    def test_eight_ties_and_nine(self):
        self.assertEqual(made_web(1, [(0, 0)] * 8), EIGHT_CURLS)
        for many in (9, 10, 100):
            with self.assertRaises(TooMany):
                made_web(1, [(0, 0)] * many)
            with self.assertRaises(TooMany):
                made_web(1, ((0, 0),) * many)

    def test_points_that_are_none(self):
        for points in ODD_THINGS + FAR_NUMBERS + (0, 10, 11):
            with self.subTest(points=points), self.assertRaises(NoWeb):
                made_web(points, [])

    def test_no_web_goes_ahead_of_all(self):
        for points in (0, 10, True, None, "3", 3.0, [3]):
            for ties in ([(0, 0)] * 9, [None], [None] * 9, [(0, 99)]):
                with self.subTest(points=points, ties=ties), self.assertRaises(NoWeb):
                    made_web(points, ties)

    def test_too_many_goes_ahead_of_no_tie(self):
        for odd in ODD_THINGS:
            with self.subTest(odd=odd), self.assertRaises(TooMany):
                made_web(2, [odd] * 9)
            with self.subTest(odd=odd), self.assertRaises(TooMany):
                made_web(2, [(0, 1)] * 8 + [odd])

    def test_a_tie_that_is_none(self):
        for odd in ODD_THINGS + FAR_NUMBERS + (0, 1):
            with self.subTest(odd=odd):
                self.assert_no_tie(0, 2, [odd])
                self.assert_no_tie(0, 2, (odd,))
                self.assert_no_tie(7, 2, [(0, 1)] * 7 + [odd])

    def test_an_end_that_is_no_point(self):
        for odd in ODD_THINGS + FAR_NUMBERS + (2, 3, (0, 1)):
            with self.subTest(odd=odd):
                self.assert_no_tie(0, 2, [(odd, 0)])
                self.assert_no_tie(0, 2, [(0, odd)])
                self.assert_no_tie(2, 2, [(0, 1), (1, 1), (odd, odd)])

    def test_the_number_of_points_is_no_point(self):
        for points in range(1, 10):
            self.assert_no_tie(1, points, [(0, points - 1), (0, points)])
            self.assert_no_tie(1, points, [(0, points - 1), (points, 0)])

    def test_a_list_of_two_points_is_no_tie(self):
        self.assert_no_tie(1, 3, [(0, 1), [1, 2]])

    def test_the_first_wrong_one_is_told(self):
        for first in range(8):
            ties = [(0, 1)] * first + [(0, 2)] + [None] * (7 - first)
            self.assert_no_tie(first, 2, ties)

    def test_what_is_handed_in_stays(self):
        ties = [(1, 0), (2, 2), (2, 0)]
        made_web(3, ties)
        self.assertEqual(ties, [(1, 0), (2, 2), (2, 0)])
        wrong = [(1, 0), [0, 1], None]
        with self.assertRaises(NoTie):
            made_web(3, wrong)
        self.assertEqual(wrong, [(1, 0), [0, 1], None])

    def test_no_list_that_is_handed_in_is_kept(self):
        ties = [(1, 0)]
        web = made_web(3, ties)
        ties.append((2, 2))
        ties[0] = (0, 0)
        self.assertEqual(web, (3, ((0, 1),)))
        self.assertEqual(made_web(3, [(1, 0)]), (3, ((0, 1),)))


class Picks(unittest.TestCase):
    def test_an_ordinary_web(self):
        wanted = [(), (0,), (1,), (2,), (0, 1), (0, 2), (1, 2), (0, 1, 2)]
        self.assertEqual(all_picks(TRIANGLE), wanted)

    def test_no_ties(self):
        self.assertEqual(all_picks(LONE_POINT), [()])
        self.assertEqual(all_picks(LOOSE_POINTS), [()])

    def test_eight_ties(self):
        picks = all_picks(EIGHT_CURLS)
        self.assertEqual(len(picks), 256)
        self.assertEqual(picks[0], ())
        self.assertEqual(picks[-1], (0, 1, 2, 3, 4, 5, 6, 7))

    def test_as_made_another_way(self):
        for web in list(SAMPLES) + list(small_webs()):
            self.assertEqual(all_picks(web), picks_by_mask(web))

    def test_a_list_of_tuples(self):
        picks = all_picks(TRIANGLE)
        self.assertIs(type(picks), list)
        for pick in picks:
            self.assertIs(type(pick), tuple)

    def test_a_told_list_is_the_askers_own(self):
        for web in SAMPLES:
            wanted = picks_by_mask(web)
            told = all_picks(web)
            told.append("more")
            told[0] = None
            self.assertEqual(all_picks(web), wanted)
            told.clear()
            self.assertEqual(all_picks(web), wanted)


if __name__ == "__main__":
    unittest.main()
