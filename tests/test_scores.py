"""Scores: promises 2, 3 and 23."""

import itertools
import unittest

from manycounts.polys import worth_at
from manycounts.scores import all_scores, pointing_of
from manycounts.steps import by_leaving
from manycounts.stretches import by_trees
from manycounts.tables import by_picks
from samples import (
    ALL_KINDS,
    EACH_WITH_EACH,
    EIGHT_CURLS,
    EIGHT_TWINS,
    FAR_NUMBERS,
    LONE_POINT,
    LOOSE_POINTS,
    PATH_OF_NINE,
    PLAIN_AND_MORE,
    SAMPLES,
    SQUARE_WITH_A_BAR,
    TRIANGLE,
    TWIN_AND_CURL,
    TWO_PARTS,
    many_webs,
    score_by_words,
    scores_by_words,
    small_webs,
)


class AllScores(unittest.TestCase):
    def test_known_webs(self):
        wanted = [(0, 1, 2), (0, 2, 1), (1, 0, 2), (1, 1, 1), (1, 2, 0), (2, 0, 1), (2, 1, 0)]
        self.assertEqual(all_scores(TRIANGLE), wanted)
        self.assertEqual(all_scores(TWIN_AND_CURL), [(0, 2, 1), (1, 1, 1), (2, 0, 1)])
        self.assertEqual(all_scores(EIGHT_TWINS), [(k, 8 - k) for k in range(9)])
        self.assertEqual(len(all_scores(PATH_OF_NINE)), 256)
        self.assertEqual(len(all_scores(EACH_WITH_EACH)), 38)

    def test_a_curl_is_one(self):
        self.assertEqual(all_scores(EIGHT_CURLS), [(8,)])
        self.assertEqual(all_scores((1, ((0, 0),))), [(1,)])
        self.assertEqual(all_scores((2, ((0, 1), (1, 1)))), [(0, 2), (1, 1)])

    def test_no_ties(self):
        self.assertEqual(all_scores(LONE_POINT), [(0,)])
        self.assertEqual(all_scores(LOOSE_POINTS), [(0,) * 9])

    def test_the_scores_of_all_pointings(self):
        for web in many_webs():
            told = all_scores(web)
            self.assertIs(type(told), list)
            self.assertEqual(told, scores_by_words(web))
            for score in told:
                self.assertIs(type(score), tuple)
                self.assertEqual([type(number) for number in score], [int] * web[0])

    def test_as_many_as_the_worth(self):
        for web in many_webs():
            self.assertEqual(len(all_scores(web)), worth_at(by_picks(web), 2, 1))
        for web in SAMPLES:
            backwards = list(range(len(web[1])))[::-1]
            for poly in (by_leaving(web), by_leaving(web, backwards), by_trees(web), by_trees(web, backwards)):
                self.assertEqual(len(all_scores(web)), worth_at(poly, 2, 1))


class PointingOf(unittest.TestCase):
    def assert_told(self, web, score):
        told = pointing_of(web, score)
        self.assertIs(type(told), tuple)
        self.assertEqual(len(told), len(web[1]))
        self.assertTrue(all(type(way) is int and way in (0, 1) for way in told))
        self.assertEqual(score_by_words(web, told), score)

    def test_known_webs(self):
        self.assertEqual(pointing_of(TRIANGLE, (2, 1, 0)), (0, 0, 0))
        self.assertEqual(pointing_of(TRIANGLE, (0, 1, 2)), (1, 1, 1))
        self.assertIn(pointing_of(TRIANGLE, (1, 1, 1)), ((0, 1, 0), (1, 0, 1)))
        self.assertIsNone(pointing_of(TRIANGLE, (3, 0, 0)))
        self.assertIsNone(pointing_of(TRIANGLE, (0, 0, 0)))
        self.assertIsNone(pointing_of(TRIANGLE, (2, 2, 0)))

    def test_no_ties_and_curls(self):
        self.assertEqual(pointing_of(LONE_POINT, (0,)), ())
        self.assertEqual(pointing_of(LOOSE_POINTS, (0,) * 9), ())
        self.assertIsNone(pointing_of(LONE_POINT, (1,)))
        self.assertIsNone(pointing_of(LOOSE_POINTS, (0,) * 8 + (1,)))
        self.assert_told(EIGHT_CURLS, (8,))
        self.assertIsNone(pointing_of(EIGHT_CURLS, (16,)))
        self.assertIsNone(pointing_of(EIGHT_CURLS, (7,)))

    def test_each_score(self):
        for web in many_webs():
            for score in scores_by_words(web):
                self.assert_told(web, score)

    def test_each_tuple_of_small_numbers(self):
        named = [SQUARE_WITH_A_BAR, PLAIN_AND_MORE, TRIANGLE, EIGHT_CURLS, EIGHT_TWINS]
        for web in list(small_webs()) + named:
            scores = scores_by_words(web)
            most = max(max(score) for score in scores)
            for numbers in itertools.product(range(-1, most + 2), repeat=web[0]):
                if numbers in scores:
                    self.assert_told(web, numbers)
                else:
                    self.assertIsNone(pointing_of(web, numbers), (web, numbers))

    def test_one_more_here_and_one_less_there(self):
        for web in (TWO_PARTS, ALL_KINDS, PATH_OF_NINE):
            scores = scores_by_words(web)
            for score in scores[::7]:
                for up, down in itertools.permutations(range(web[0]), 2):
                    moved = list(score)
                    moved[up] += 1
                    moved[down] -= 1
                    if tuple(moved) in scores:
                        self.assert_told(web, tuple(moved))
                    else:
                        self.assertIsNone(pointing_of(web, tuple(moved)), (web, moved))

    def test_numbers_far_off(self):
        for web in SAMPLES:
            for score in scores_by_words(web)[:5]:
                for at in range(web[0]):
                    for far in FAR_NUMBERS + (10**60 - 1, 1 - 10**60, 9):
                        self.assertIsNone(pointing_of(web, score[:at] + (far,) + score[at + 1:]))

    def test_far_numbers_that_come_to_as_many_as_the_ties(self):
        for far in (10, 10**20, 10**60 - 1):
            self.assertIsNone(pointing_of(TRIANGLE, (far, 3 - far, 0)))
            self.assertIsNone(pointing_of(EIGHT_TWINS, (8 - far, far)))


class Stays(unittest.TestCase):
    def test_a_told_list_changed_behind_changes_nothing(self):
        for web in SAMPLES:
            before, wanted = (web[0], tuple(web[1])), list(all_scores(web))
            told = all_scores(web)
            told.append((0,))
            told[0] = None
            self.assertEqual(all_scores(web), wanted)
            told.clear()
            self.assertEqual(all_scores(web), wanted)
            self.assertEqual(web, before)

    def test_the_same_is_told_alike(self):
        for web in SAMPLES:
            for score in scores_by_words(web):
                before = tuple(score)
                self.assertEqual(pointing_of(web, score), pointing_of(web, score))
                self.assertEqual(score, before)


if __name__ == "__main__":
    unittest.main()
