"""Colourings: promises 2, 3, 24 and 25."""

import itertools
import unittest

from manycounts.clusters import rank_of
from manycounts.colours import all_colourings, colour_count, colour_row
from manycounts.errors import NoNumber, TooMany
from manycounts.polys import worth_at
from manycounts.steps import by_leaving
from manycounts.stretches import by_trees
from manycounts.tables import by_picks
from samples import (
    EACH_WITH_EACH,
    EIGHT_CURLS,
    EIGHT_TWINS,
    LONE_POINT,
    LOOSE_POINTS,
    ODD_THINGS,
    PATH_OF_NINE,
    SAMPLES,
    SQUARE_WITH_A_BAR,
    TRIANGLE,
    TWIN_AND_CURL,
    TWO_PARTS,
    WHEEL,
    clusters_by_walking,
    colourings_by_words,
    many_webs,
    picks_by_mask,
    worth_of,
)

# For each number of points the greatest q of which the tuples are listed.
GREATEST = {1: 1000, 2: 31, 3: 10, 4: 5, 5: 3, 6: 3, 7: 2, 8: 2, 9: 2}
BELOW_NOUGHT = (-1, -2, -31, -1000, -(10**20), 1 - 10**60)
GREAT = (1001, 1002, 10**4, 10**20, 2**64, 10**59, 10**59 + 7, 10**60 - 1)


def listed_for(web):
    """The numbers of colours that are tried in a list: all, or of many some."""
    greatest = GREATEST[web[0]]
    return sorted({q for q in range(min(greatest, 12) + 1)} | {greatest - 1, greatest})


def count_by_picks(web, q):
    """How many colourings there are, by what hangs together in each pick."""
    return sum((-1) ** len(pick) * q ** len(clusters_by_walking(web, pick)) for pick in picks_by_mask(web))


def has_curl(web):
    return any(a == b for a, b in web[1])


class Colourings(unittest.TestCase):
    def test_known_webs(self):
        self.assertEqual(all_colourings(TRIANGLE, 3), sorted(itertools.permutations(range(3))))
        self.assertEqual(all_colourings(TRIANGLE, 2), [])
        self.assertEqual(all_colourings(EIGHT_TWINS, 2), [(0, 1), (1, 0)])
        self.assertEqual(all_colourings(PATH_OF_NINE, 2), [(0, 1) * 4 + (0,), (1, 0) * 4 + (1,)])
        self.assertEqual(len(all_colourings(EACH_WITH_EACH, 4)), 24)
        self.assertEqual(len(all_colourings(SQUARE_WITH_A_BAR, 5)), 180)
        self.assertEqual(len(all_colourings(WHEEL, 3)), 6)

    def test_no_colours_and_one(self):
        for web in many_webs():
            self.assertEqual(all_colourings(web, 0), [])
            self.assertEqual(all_colourings(web, 1), [] if web[1] else [(0,) * web[0]])

    def test_no_ties(self):
        self.assertEqual(all_colourings(LONE_POINT, 1000), [(colour,) for colour in range(1000)])
        for points, greatest in GREATEST.items():
            told = all_colourings((points, ()), greatest)
            self.assertEqual(told, list(itertools.product(range(greatest), repeat=points)))

    def test_none_with_a_curl(self):
        for web in (EIGHT_CURLS, TWIN_AND_CURL, TWO_PARTS, (1, ((0, 0),)), (3, ((0, 1), (1, 1)))):
            for q in listed_for(web):
                self.assertEqual(all_colourings(web, q), [])

    def test_as_found_among_all_tuples(self):
        for web in many_webs():
            for q in listed_for(web):
                told = all_colourings(web, q)
                self.assertEqual(told, colourings_by_words(web, q))
                self.assertIs(type(told), list)

    def test_tuples_of_whole_numbers(self):
        for colours in all_colourings(TRIANGLE, 4):
            self.assertIs(type(colours), tuple)
            self.assertEqual([type(colour) for colour in colours], [int] * 3)


class Refused(unittest.TestCase):
    def test_what_is_no_number(self):
        for asked in (all_colourings, colour_count):
            for web in SAMPLES:
                for q in ODD_THINGS + BELOW_NOUGHT + ("3", [3], (3,), 3.0, -0.5):
                    with self.subTest(web=web, q=q), self.assertRaises(NoNumber):
                        asked(web, q)

    def test_true_and_false_are_no_numbers(self):
        for asked in (all_colourings, colour_count):
            for web in (LONE_POINT, TRIANGLE, EIGHT_CURLS):
                for q in (True, False):
                    with self.assertRaises(NoNumber):
                        asked(web, q)

    def test_too_many(self):
        for points, greatest in GREATEST.items():
            for ties in ((), ((0, points - 1),), ((0, 0),) * 8):
                self.assertLessEqual(len(all_colourings((points, ties), greatest)), 1000)
                for q in (greatest + 1, greatest + 2) + GREAT:
                    with self.subTest(points=points, ties=ties, q=q), self.assertRaises(TooMany):
                        all_colourings((points, ties), q)

    def test_a_count_is_never_too_many(self):
        for web in SAMPLES:
            for q in GREAT:
                self.assertEqual(colour_count(web, q), count_by_picks(web, q))

    def test_no_number_goes_ahead_of_too_many(self):
        for q in (-1001, -(10**59), 1001.0, 1e60, "1001"):
            with self.assertRaises(NoNumber):
                all_colourings(LONE_POINT, q)


class Rows(unittest.TestCase):
    def test_known_webs(self):
        self.assertEqual(colour_row(TRIANGLE), [0, 2, -3, 1])
        self.assertEqual(colour_row(EIGHT_TWINS), [0, -1, 1])
        self.assertEqual(colour_row(EACH_WITH_EACH), [0, -6, 11, -6, 1])
        self.assertEqual(colour_row((4, ((0, 1), (2, 3)))), [0, 0, 1, -2, 1])
        self.assertEqual(colour_row(PATH_OF_NINE), [0, 1, -8, 28, -56, 70, -56, 28, -8, 1])

    def test_no_ties(self):
        for points in range(1, 10):
            self.assertEqual(colour_row((points, ())), [0] * points + [1])

    def test_nought_with_a_curl(self):
        for web in (EIGHT_CURLS, TWIN_AND_CURL, TWO_PARTS, (9, ((8, 8),))):
            self.assertEqual(colour_row(web), [])
        for web in many_webs():
            self.assertEqual(colour_row(web) == [], has_curl(web))

    def test_lists_of_whole_numbers_the_last_one_not_0(self):
        for web in many_webs():
            row = colour_row(web)
            self.assertIs(type(row), list)
            self.assertTrue(all(type(number) is int for number in row))
            if row:
                self.assertEqual(row[-1], 1)
                self.assertEqual(len(row), web[0] + 1)

    def test_as_the_polynomial_tells(self):
        for web in many_webs():
            rank = rank_of(web, tuple(range(len(web[1]))))
            row = colour_row(web)
            for poly in (by_picks(web), by_leaving(web), by_trees(web)):
                for q in (0, 1, 2, 3, 7, 10**59):
                    self.assertEqual(worth_of(row, q), (-1) ** rank * q ** (web[0] - rank) * worth_at(poly, 1 - q, 0))

    def test_a_told_row_changed_behind_changes_nothing(self):
        for web in SAMPLES:
            before, wanted = (web[0], tuple(web[1])), list(colour_row(web))
            count = colour_count(web, 5)
            told = colour_row(web)
            told.append(7)
            told[0] = 9
            self.assertEqual(colour_row(web), wanted)
            told.clear()
            self.assertEqual(colour_row(web), wanted)
            self.assertEqual(colour_count(web, 5), count)
            self.assertEqual(web, before)


class Counts(unittest.TestCase):
    def test_known_webs(self):
        self.assertEqual([colour_count(TRIANGLE, q) for q in range(5)], [0, 0, 0, 6, 24])
        self.assertEqual(colour_count(LONE_POINT, 10**60 - 1), 10**60 - 1)
        self.assertEqual(colour_count(LOOSE_POINTS, 10**59), 10**531)
        self.assertEqual(colour_count(PATH_OF_NINE, 10**59), 10**59 * (10**59 - 1) ** 8)
        self.assertEqual(colour_count(EIGHT_CURLS, 10**59), 0)

    def test_as_many_as_are_listed(self):
        for web in many_webs():
            for q in listed_for(web):
                told = colour_count(web, q)
                self.assertIs(type(told), int)
                self.assertEqual(told, len(all_colourings(web, q)))

    def test_great_numbers(self):
        for web in many_webs():
            row = colour_row(web)
            for q in (100, 1001, 10**20, 10**59 + 7, 10**60 - 1):
                told = colour_count(web, q)
                self.assertIs(type(told), int)
                self.assertEqual(told, worth_of(row, q))
                self.assertEqual(told, count_by_picks(web, q))


class Stays(unittest.TestCase):
    def test_a_told_list_changed_behind_changes_nothing(self):
        for web in SAMPLES:
            for q in range(GREATEST[web[0]] + 1)[:4]:
                before, wanted = (web[0], tuple(web[1])), list(all_colourings(web, q))
                told = all_colourings(web, q)
                told.insert(0, None)
                self.assertEqual(all_colourings(web, q), wanted)
                told.clear()
                self.assertEqual(all_colourings(web, q), wanted)
                self.assertEqual(web, before)


if __name__ == "__main__":
    unittest.main()
