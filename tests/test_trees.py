"""Trees: promises 2, 5 and 16."""

import unittest

from manycounts.polys import worth_at
from manycounts.steps import by_leaving
from manycounts.trees import all_trees, is_tree
from samples import (
    ALL_KINDS,
    EACH_WITH_EACH,
    EIGHT_CURLS,
    EIGHT_TWINS,
    LONE_POINT,
    LOOSE_POINTS,
    PATH_OF_NINE,
    SAMPLES,
    TRIANGLE,
    TWIN_AND_CURL,
    TWO_PARTS,
    WHEEL,
    many_webs,
    picks_by_mask,
    rank_by_walking,
    trees_by_walking,
)


class IsTree(unittest.TestCase):
    def test_known_webs(self):
        for pick in ((0, 1), (0, 2), (1, 2)):
            self.assertIs(is_tree(TRIANGLE, pick), True)
        for pick in ((), (0,), (1,), (2,), (0, 1, 2)):
            self.assertIs(is_tree(TRIANGLE, pick), False)
        for pick, wanted in (((), False), ((0,), True), ((1,), True), ((2,), False), ((0, 1), False), ((0, 2), False)):
            self.assertIs(is_tree(TWIN_AND_CURL, pick), wanted)

    def test_as_many_ties_as_a_tree_but_a_ring_among_them(self):
        web = (4, ((0, 1), (1, 2), (0, 2), (2, 3)))
        self.assertIs(is_tree(web, (0, 1, 2)), False)
        self.assertIs(is_tree(web, (0, 1, 3)), True)
        self.assertIs(is_tree(web, (0, 1, 2, 3)), False)

    def test_a_tree_in_each_cluster(self):
        self.assertIs(is_tree(TWO_PARTS, (0, 1, 3)), True)
        self.assertIs(is_tree(TWO_PARTS, (0, 1)), False)
        self.assertIs(is_tree(TWO_PARTS, (0, 1, 2)), False)
        self.assertIs(is_tree(TWO_PARTS, (0, 1, 4)), False)
        self.assertIs(is_tree(TWO_PARTS, (0, 1, 3, 4)), False)

    def test_without_ties(self):
        self.assertIs(is_tree(LONE_POINT, ()), True)
        self.assertIs(is_tree(LOOSE_POINTS, ()), True)
        self.assertIs(is_tree(EIGHT_CURLS, ()), True)
        self.assertIs(is_tree(EIGHT_CURLS, (3,)), False)

    def test_each_pick(self):
        for web in many_webs():
            trees = trees_by_walking(web)
            whole = rank_by_walking(web, range(len(web[1])))
            for pick in picks_by_mask(web):
                self.assertIs(is_tree(web, pick), pick in trees)
                self.assertEqual(is_tree(web, pick), (len(pick), rank_by_walking(web, pick)) == (whole, whole))


class AllTrees(unittest.TestCase):
    def test_known_webs(self):
        self.assertEqual(all_trees(TRIANGLE), [(0, 1), (0, 2), (1, 2)])
        self.assertEqual(all_trees(TWIN_AND_CURL), [(0,), (1,)])
        self.assertEqual(all_trees(TWO_PARTS), [(0, 1, 3), (0, 2, 3), (1, 2, 3)])
        self.assertEqual(all_trees(ALL_KINDS), [(0, 1, 4), (0, 3, 4), (1, 4, 5), (3, 4, 5)])
        self.assertEqual(all_trees(PATH_OF_NINE), [(0, 1, 2, 3, 4, 5, 6, 7)])
        self.assertEqual(all_trees(EIGHT_TWINS), [(k,) for k in range(8)])
        self.assertEqual(len(all_trees(EACH_WITH_EACH)), 16)
        self.assertEqual(len(all_trees(WHEEL)), 45)

    def test_the_one_pick_without_ties(self):
        for web in (LONE_POINT, LOOSE_POINTS, EIGHT_CURLS, (3, ((1, 1), (2, 2)))):
            self.assertEqual(all_trees(web), [()])

    def test_as_found_another_way(self):
        for web in many_webs():
            told = all_trees(web)
            self.assertEqual(told, trees_by_walking(web))
            self.assertIs(type(told), list)
            self.assertEqual({type(tree) for tree in told}, {tuple})
            self.assertEqual(len(told), worth_at(by_leaving(web), 1, 1))


class Stays(unittest.TestCase):
    def test_a_told_list_changed_behind_changes_nothing(self):
        for web in SAMPLES:
            before, wanted = (web[0], tuple(web[1])), list(all_trees(web))
            told = all_trees(web)
            told.append((0,))
            told[0] = None
            self.assertEqual(all_trees(web), wanted)
            told.clear()
            self.assertEqual(all_trees(web), wanted)
            self.assertEqual([is_tree(web, tree) for tree in wanted], [True] * len(wanted))
            self.assertEqual(web, before)


if __name__ == "__main__":
    unittest.main()
