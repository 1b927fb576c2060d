"""Clusters, ranks, joined webs and kinds of ties: promises 2, 5 and 6."""

import unittest

from manycounts.clusters import clusters_of, is_joined, kind_of, rank_of
from manycounts.errors import NoSuch
from samples import (
    EIGHT_CURLS,
    EIGHT_TWINS,
    FAR_NUMBERS,
    LONE_POINT,
    LOOSE_POINTS,
    ODD_THINGS,
    PATH_OF_NINE,
    SAMPLES,
    TRIANGLE,
    TWIN_AND_CURL,
    TWO_PARTS,
    WHEEL,
    clusters_by_walking,
    picks_by_mask,
    reached_from,
    small_webs,
)

ALL_EIGHT = (0, 1, 2, 3, 4, 5, 6, 7)


class Clusters(unittest.TestCase):
    def test_ordinary_picks(self):
        self.assertEqual(clusters_of(TRIANGLE, (1,)), [[0, 2], [1]])
        self.assertEqual(clusters_of(TWO_PARTS, (0, 3)), [[0, 3], [1, 4], [2], [5]])
        self.assertEqual(clusters_of(TWO_PARTS, (0, 1, 2, 3, 4)), [[0, 3, 5], [1, 4], [2]])

    def test_the_pick_of_no_ties(self):
        for web in SAMPLES:
            self.assertEqual(clusters_of(web, ()), [[point] for point in range(web[0])])

    def test_a_curl_joins_nothing(self):
        self.assertEqual(clusters_of(TWIN_AND_CURL, (2,)), [[0], [1], [2]])
        self.assertEqual(clusters_of(EIGHT_CURLS, ALL_EIGHT), [[0]])

    def test_ties_with_the_same_ends(self):
        self.assertEqual(clusters_of(TWIN_AND_CURL, (0, 1)), [[0, 1], [2]])
        self.assertEqual(clusters_of(EIGHT_TWINS, (5,)), [[0, 1]])
        self.assertEqual(clusters_of(EIGHT_TWINS, ALL_EIGHT), [[0, 1]])

    def test_clusters_that_grow_together_late(self):
        web = (6, ((4, 5), (2, 3), (0, 1), (3, 5), (1, 2)))
        self.assertEqual(clusters_of(web, (0, 1, 2, 3)), [[0, 1], [2, 3, 4, 5]])
        self.assertEqual(clusters_of(web, (0, 1, 2, 3, 4)), [[0, 1, 2, 3, 4, 5]])

    def test_as_made_another_way(self):
        for web in list(SAMPLES) + list(small_webs()):
            for pick in picks_by_mask(web):
                self.assertEqual(clusters_of(web, pick), clusters_by_walking(web, pick))

    def test_a_told_list_is_the_askers_own(self):
        for web in SAMPLES:
            pick = tuple(range(len(web[1])))
            wanted = clusters_by_walking(web, pick)
            told = clusters_of(web, pick)
            told[0].append(99)
            told.append([])
            self.assertEqual(clusters_of(web, pick), wanted)
            self.assertEqual(rank_of(web, pick), web[0] - len(wanted))
            self.assertEqual(is_joined(web), len(wanted) == 1)


class Ranks(unittest.TestCase):
    def test_ordinary_picks(self):
        self.assertEqual(rank_of(TRIANGLE, (1,)), 1)
        self.assertEqual(rank_of(TRIANGLE, (0, 2)), 2)
        self.assertEqual(rank_of(TRIANGLE, (0, 1, 2)), 2)

    def test_the_edges(self):
        self.assertEqual(rank_of(LONE_POINT, ()), 0)
        self.assertEqual(rank_of(LOOSE_POINTS, ()), 0)
        self.assertEqual(rank_of(PATH_OF_NINE, ()), 0)
        self.assertEqual(rank_of(PATH_OF_NINE, ALL_EIGHT), 8)
        self.assertEqual(rank_of(EIGHT_CURLS, ALL_EIGHT), 0)
        self.assertEqual(rank_of(EIGHT_TWINS, ALL_EIGHT), 1)
        self.assertEqual(rank_of(TWO_PARTS, (0, 1, 2, 3, 4)), 3)

    def test_points_less_clusters(self):
        for web in list(SAMPLES) + list(small_webs()):
            for pick in picks_by_mask(web):
                rank = rank_of(web, pick)
                self.assertEqual(rank, web[0] - len(clusters_by_walking(web, pick)))
                self.assertIs(type(rank), int)


class Joined(unittest.TestCase):
    def test_joined(self):
        for web in (LONE_POINT, TRIANGLE, PATH_OF_NINE, EIGHT_CURLS, EIGHT_TWINS, WHEEL):
            self.assertIs(is_joined(web), True)

    def test_not_joined(self):
        for web in (LOOSE_POINTS, TWIN_AND_CURL, TWO_PARTS, (2, ()), (2, ((0, 0), (1, 1)))):
            self.assertIs(is_joined(web), False)


class Kinds(unittest.TestCase):
    def kinds(self, web):
        return [kind_of(web, k) for k in range(len(web[1]))]

    def test_ordinary_webs(self):
        self.assertEqual(self.kinds(TRIANGLE), ["plain"] * 3)
        self.assertEqual(self.kinds(TWO_PARTS), ["plain", "plain", "plain", "bridge", "curl"])
        self.assertEqual(self.kinds(WHEEL), ["plain"] * 8)
        web = (4, ((0, 1), (1, 1), (1, 2), (1, 2), (2, 3)))
        self.assertEqual(self.kinds(web), ["bridge", "curl", "plain", "plain", "bridge"])

    def test_the_edges(self):
        self.assertEqual(self.kinds((2, ((0, 1),))), ["bridge"])
        self.assertEqual(self.kinds((1, ((0, 0),))), ["curl"])
        self.assertEqual(self.kinds(PATH_OF_NINE), ["bridge"] * 8)
        self.assertEqual(self.kinds(EIGHT_CURLS), ["curl"] * 8)
        self.assertEqual(self.kinds(EIGHT_TWINS), ["plain"] * 8)
        self.assertEqual(self.kinds(TWIN_AND_CURL), ["plain", "plain", "curl"])

    def test_as_made_another_way(self):
        for web in list(SAMPLES) + list(small_webs()):
            for k, tie in enumerate(web[1]):
                others = [other for other in range(len(web[1])) if other != k]
                apart = tie[1] not in reached_from(web, others, tie[0])
                wanted = "bridge" if apart else "plain"
                if tie[0] == tie[1]:
                    wanted = "curl"
                self.assertEqual(kind_of(web, k), wanted)

    def test_what_is_no_number_of_a_tie(self):
        for web in SAMPLES:
            many = len(web[1])
            for k in ODD_THINGS + FAR_NUMBERS + (many, many + 1, -many, (0, 1)):
                with self.subTest(web=web, k=k), self.assertRaises(NoSuch):
                    kind_of(web, k)

    def test_without_ties_there_is_none(self):
        for k in (0, -1, 1):
            with self.assertRaises(NoSuch):
                kind_of(LONE_POINT, k)


if __name__ == "__main__":
    unittest.main()
