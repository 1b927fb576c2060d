"""Corners of the table of points: promises 2, 3 and 19."""

import itertools
import unittest

from manycounts.clusters import is_joined
from manycounts.corners import corner_at
from manycounts.errors import NoPoint
from manycounts.polys import worth_at
from manycounts.tables import by_picks
from manycounts.trees import all_trees
from samples import (
    ALL_KINDS,
    EACH_WITH_EACH,
    EIGHT_CURLS,
    EIGHT_TWINS,
    FAR_NUMBERS,
    LONE_POINT,
    LOOSE_POINTS,
    ODD_THINGS,
    PATH_OF_NINE,
    SAMPLES,
    SQUARE_WITH_A_BAR,
    TRIANGLE,
    TWIN_AND_CURL,
    TWO_PARTS,
    WHEEL,
    many_webs,
    trees_by_walking,
)

RING_OF_EIGHT = (8, tuple((k, k + 1) for k in range(7)) + ((0, 7),))
TWO_AND_FOUR = (6, tuple((a, b) for a in (0, 1) for b in (2, 3, 4, 5)))
STAR_OF_NINE = (9, tuple((0, k) for k in range(1, 9)))


def corner_by_terms(web, point):
    """The corner as the sum over all ways to take one number of each row and column."""
    left = [other for other in range(web[0]) if other != point]
    total = 0
    for columns in itertools.permutations(left):
        term = 1
        for row, column in zip(left, columns):
            between = sum(1 for a, b in web[1] if a != b and {a, b} == {row, column})
            own = sum(1 for a, b in web[1] if a != b and row in (a, b))
            term *= own if row == column else -between
        wrong_way = sum(1 for one, other in itertools.combinations(columns, 2) if one > other)
        total += term * (-1) ** wrong_way
    return total


class Corners(unittest.TestCase):
    def assert_corners(self, web, wanted):
        for point in range(web[0]):
            self.assertEqual(corner_at(web, point), wanted, (web, point))
            self.assertIs(type(corner_at(web, point)), int)

    def test_known_webs(self):
        self.assert_corners(TRIANGLE, 3)
        self.assert_corners(PATH_OF_NINE, 1)
        self.assert_corners(STAR_OF_NINE, 1)
        self.assert_corners(EIGHT_TWINS, 8)
        self.assert_corners(SQUARE_WITH_A_BAR, 8)
        self.assert_corners(EACH_WITH_EACH, 16)
        self.assert_corners(RING_OF_EIGHT, 8)
        self.assert_corners(TWO_AND_FOUR, 32)
        self.assert_corners(WHEEL, 45)

    def test_one_point_with_and_without_curls(self):
        for many in range(9):
            self.assert_corners((1, ((0, 0),) * many), 1)
        self.assert_corners(LONE_POINT, 1)
        self.assert_corners(EIGHT_CURLS, 1)

    def test_curls_do_not_count(self):
        self.assert_corners((3, TRIANGLE[1] + ((0, 0), (1, 1), (1, 1), (2, 2))), 3)
        self.assert_corners((2, ((0, 1), (1, 1))), 1)
        self.assert_corners((2, ((0, 0),)), 0)

    def test_webs_that_are_not_joined(self):
        for points in range(2, 10):
            self.assert_corners((points, ()), 0)
        for web in (LOOSE_POINTS, TWIN_AND_CURL, TWO_PARTS, ALL_KINDS, (4, TRIANGLE[1]), (4, ((0, 3), (1, 2)))):
            self.assert_corners(web, 0)

    def test_as_many_as_there_are_trees(self):
        joined = 0
        for web in many_webs():
            if is_joined(web):
                joined += 1
                trees = trees_by_walking(web)
                self.assertEqual(all_trees(web), trees)
                self.assertEqual(worth_at(by_picks(web), 1, 1), len(trees))
                self.assert_corners(web, len(trees))
            else:
                self.assert_corners(web, 0)
        self.assertGreater(joined, 100)

    def test_as_reckoned_by_all_terms(self):
        for web in many_webs():
            if web[0] <= 5:
                for point in range(web[0]):
                    self.assertEqual(corner_at(web, point), corner_by_terms(web, point))


class Refused(unittest.TestCase):
    def test_what_is_no_point(self):
        for web in SAMPLES:
            points = web[0]
            for point in ODD_THINGS + FAR_NUMBERS + (points, points + 1, -points, -1, (0, 1), [points], "2"):
                with self.subTest(web=web, point=point), self.assertRaises(NoPoint):
                    corner_at(web, point)

    def test_true_and_false_where_0_and_1_are_points(self):
        for point in (True, False, 0.0, 1.0, "0", None):
            for web in (TRIANGLE, EIGHT_TWINS, LOOSE_POINTS):
                with self.assertRaises(NoPoint):
                    corner_at(web, point)


class Stays(unittest.TestCase):
    def test_the_web_handed_in_stays_and_is_told_alike(self):
        for web in SAMPLES:
            before = (web[0], tuple(web[1]))
            told = [corner_at(web, point) for point in range(web[0])]
            self.assertEqual(web, before)
            self.assertEqual([corner_at(web, point) for point in range(web[0])], told)


if __name__ == "__main__":
    unittest.main()
