"""Picks by size and rank, and the polynomial by picks: promises 2, 3, 5 and 15."""

import collections
import unittest

from manycounts.polys import product_of, worth_at
from manycounts.steps import by_leaving, steps_of
from manycounts.tables import by_picks, picks_with, size_table
from samples import (
    ALL_KINDS,
    EACH_WITH_EACH,
    EIGHT_CURLS,
    EIGHT_TWINS,
    FAR_NUMBERS,
    LONE_POINT,
    LOOSE_POINTS,
    PATH_OF_NINE,
    PLAIN_AND_MORE,
    SAMPLES,
    SQUARE_WITH_A_BAR,
    TRIANGLE,
    TWIN_AND_CURL,
    TWO_PARTS,
    WHEEL,
    every_order,
    jumbled_webs,
    many_webs,
    picks_by_mask,
    poly_by_picks,
    rank_by_walking,
    some_orders,
)


class Table(unittest.TestCase):
    def test_known_webs(self):
        self.assertEqual(size_table(LONE_POINT), [(0, 0, 1)])
        self.assertEqual(size_table(LOOSE_POINTS), [(0, 0, 1)])
        self.assertEqual(size_table((1, ((0, 0),))), [(0, 0, 1), (1, 0, 1)])
        self.assertEqual(size_table((2, ((0, 1),))), [(0, 0, 1), (1, 1, 1)])
        self.assertEqual(size_table((2, ((0, 1), (0, 1)))), [(0, 0, 1), (1, 1, 2), (2, 1, 1)])
        self.assertEqual(size_table(TRIANGLE), [(0, 0, 1), (1, 1, 3), (2, 2, 3), (3, 2, 1)])
        wanted = [(0, 0, 1), (1, 0, 1), (1, 1, 2), (2, 1, 3), (3, 1, 1)]
        self.assertEqual(size_table(TWIN_AND_CURL), wanted)
        wanted = [(0, 0, 1), (1, 0, 1), (1, 1, 4), (2, 1, 4), (2, 2, 6)]
        wanted += [(3, 2, 7), (3, 3, 3), (4, 2, 1), (4, 3, 4), (5, 3, 1)]
        self.assertEqual(size_table(TWO_PARTS), wanted)

    def test_many_ties(self):
        eight = (1, 8, 28, 56, 70, 56, 28, 8, 1)
        self.assertEqual(size_table(EIGHT_CURLS), [(size, 0, many) for size, many in enumerate(eight)])
        self.assertEqual(size_table(PATH_OF_NINE), [(size, size, many) for size, many in enumerate(eight)])
        self.assertEqual(size_table(EIGHT_TWINS), [(size, min(size, 1), many) for size, many in enumerate(eight)])

    def test_as_counted_another_way(self):
        for web in many_webs():
            counted = collections.Counter((len(pick), rank_by_walking(web, pick)) for pick in picks_by_mask(web))
            told = size_table(web)
            self.assertEqual(told, sorted((size, rank, many) for (size, rank), many in counted.items()))
            self.assertIs(type(told), list)
            for row in told:
                self.assertIs(type(row), tuple)
                self.assertEqual([type(number) for number in row], [int] * 3)
                self.assertGreater(row[2], 0)
            self.assertEqual(sum(row[2] for row in told), 2 ** len(web[1]))


class PicksWith(unittest.TestCase):
    def test_known_webs(self):
        self.assertEqual(picks_with(TRIANGLE, 2, 2), [(0, 1), (0, 2), (1, 2)])
        self.assertEqual(picks_with(TRIANGLE, 3, 2), [(0, 1, 2)])
        self.assertEqual(picks_with(TRIANGLE, 0, 0), [()])
        self.assertEqual(picks_with(TWIN_AND_CURL, 1, 0), [(2,)])
        self.assertEqual(picks_with(TWIN_AND_CURL, 2, 1), [(0, 1), (0, 2), (1, 2)])
        self.assertEqual(picks_with(PLAIN_AND_MORE, 2, 1), [(0, 1), (1, 2), (1, 3), (1, 4), (2, 3)])
        self.assertEqual(picks_with(LONE_POINT, 0, 0), [()])

    def test_every_size_and_rank(self):
        for web in many_webs():
            told = []
            for size in range(-2, 11):
                for rank in range(-2, 11):
                    picks = picks_with(web, size, rank)
                    self.assertEqual(picks, sorted(picks))
                    self.assertIs(type(picks), list)
                    for pick in picks:
                        self.assertIs(type(pick), tuple)
                        self.assertEqual((len(pick), rank_by_walking(web, pick)), (size, rank))
                    told += picks
            self.assertEqual(sorted(told), sorted(picks_by_mask(web)))

    def test_as_many_as_the_table_tells(self):
        for web in many_webs():
            for size, rank, many in size_table(web):
                self.assertEqual(len(picks_with(web, size, rank)), many)

    def test_sizes_and_ranks_that_no_pick_has(self):
        far = FAR_NUMBERS + (9, 10, 10**60 - 1, 1 - 10**60)
        for web in SAMPLES:
            for number in far:
                for other in far + (0, 1, 2):
                    self.assertEqual(picks_with(web, number, other), [])
                    self.assertEqual(picks_with(web, other, number), [])
        self.assertEqual(picks_with(TRIANGLE, 1, 0), [])
        self.assertEqual(picks_with(TRIANGLE, 0, 1), [])
        self.assertEqual(picks_with(TRIANGLE, 1, 2), [])
        self.assertEqual(picks_with(TRIANGLE, 3, 3), [])
        self.assertEqual(picks_with(LOOSE_POINTS, 0, 8), [])


class ByPicks(unittest.TestCase):
    def test_known_webs(self):
        self.assertEqual(by_picks(LONE_POINT), ((0, 0, 1),))
        self.assertEqual(by_picks(LOOSE_POINTS), ((0, 0, 1),))
        self.assertEqual(by_picks((1, ((0, 0),))), ((0, 1, 1),))
        self.assertEqual(by_picks((2, ((0, 1),))), ((1, 0, 1),))
        self.assertEqual(by_picks(TRIANGLE), ((0, 1, 1), (1, 0, 1), (2, 0, 1)))
        self.assertEqual(by_picks(TWIN_AND_CURL), ((0, 2, 1), (1, 1, 1)))
        self.assertEqual(by_picks(PATH_OF_NINE), ((8, 0, 1),))
        self.assertEqual(by_picks(EIGHT_CURLS), ((0, 8, 1),))
        self.assertEqual(by_picks(EIGHT_TWINS), tuple((0, j, 1) for j in range(1, 8)) + ((1, 0, 1),))
        wanted = ((0, 1, 2), (0, 2, 3), (0, 3, 1), (1, 0, 2), (1, 1, 4), (2, 0, 3), (3, 0, 1))
        self.assertEqual(by_picks(EACH_WITH_EACH), wanted)

    def test_the_sum_over_all_picks(self):
        for web in many_webs():
            self.assertEqual(by_picks(web), poly_by_picks(web))

    def test_its_worth_is_the_sums(self):
        for web in SAMPLES:
            whole = rank_by_walking(web, range(len(web[1])))
            for x, y in ((0, 0), (1, 1), (2, 1), (1, 2), (2, 2), (-3, 5), (7, -2), (10**20, -(10**20))):
                wanted = 0
                for pick in picks_by_mask(web):
                    rank = rank_by_walking(web, pick)
                    wanted += (x - 1) ** (whole - rank) * (y - 1) ** (len(pick) - rank)
                self.assertEqual(worth_at(by_picks(web), x, y), wanted)

    def test_that_of_the_steps_by_some_orders(self):
        for web in many_webs():
            wanted = by_picks(web)
            for order in some_orders(len(web[1])):
                self.assertEqual(steps_of(web, order).poly(), wanted)

    def test_that_of_the_steps_by_every_order(self):
        for web in (TRIANGLE, PLAIN_AND_MORE, SQUARE_WITH_A_BAR, TWO_PARTS, EACH_WITH_EACH, ALL_KINDS):
            wanted = by_picks(web)
            for order in every_order(len(web[1])):
                self.assertEqual(by_leaving(web, order), wanted)

    def test_another_numbering_leaves_it(self):
        for web in list(SAMPLES) + list(jumbled_webs()):
            points = web[0]
            backwards = tuple((points - 1 - b, points - 1 - a) for a, b in web[1])
            turned = tuple(tuple(sorted(((a + 1) % points, (b + 1) % points))) for a, b in web[1])
            for ties in (web[1][::-1], backwards, turned, web[1][1:] + web[1][:1]):
                self.assertEqual(by_picks((points, ties)), by_picks(web))

    def test_webs_side_by_side_and_at_one_point_have_the_product(self):
        few = [TRIANGLE, TWIN_AND_CURL, LONE_POINT, (2, ((0, 1),)), (4, ((0, 1), (1, 2), (2, 3), (0, 3)))]
        for one in few:
            for other in few:
                for up in (one[0], one[0] - 1):
                    ties = one[1] + tuple((a + up, b + up) for a, b in other[1])
                    wanted = product_of(by_picks(one), by_picks(other))
                    self.assertEqual(by_picks((up + other[0], ties)), wanted)


class Stays(unittest.TestCase):
    def test_the_web_handed_in_stays(self):
        for web in SAMPLES:
            before = (web[0], tuple(web[1]))
            told = (size_table(web), picks_with(web, 1, 1), by_picks(web))
            self.assertEqual(web, before)
            self.assertEqual((size_table(web), picks_with(web, 1, 1), by_picks(web)), told)

    def test_a_told_list_changed_behind_changes_nothing(self):
        for web in SAMPLES + (WHEEL,):
            wanted = (list(size_table(web)), list(picks_with(web, 1, 1)), by_picks(web))
            for told in (size_table(web), picks_with(web, 1, 1)):
                told.append("more")
                told[0] = None
                told.reverse()
                self.assertEqual((size_table(web), picks_with(web, 1, 1), by_picks(web)), wanted)
                told.clear()
                self.assertEqual((size_table(web), picks_with(web, 1, 1), by_picks(web)), wanted)


if __name__ == "__main__":
    unittest.main()
