"""Woods and holders: promises 2, 3, 5 and 20."""

import unittest

from manycounts.polys import worth_at
from manycounts.steps import by_leaving
from manycounts.stretches import by_trees
from manycounts.tables import by_picks
from manycounts.trees import all_trees
from manycounts.webs import all_picks
from manycounts.woods import all_holders, all_woods
from samples import (
    EACH_WITH_EACH,
    EIGHT_CURLS,
    EIGHT_TWINS,
    LONE_POINT,
    LOOSE_POINTS,
    PATH_OF_NINE,
    SAMPLES,
    TRIANGLE,
    TWIN_AND_CURL,
    TWO_PARTS,
    clusters_by_walking,
    many_webs,
    picks_by_mask,
    rank_by_walking,
    trees_by_walking,
)


class Woods(unittest.TestCase):
    def test_known_webs(self):
        self.assertEqual(all_woods(TRIANGLE), [(), (0,), (0, 1), (0, 2), (1,), (1, 2), (2,)])
        self.assertEqual(all_woods(TWIN_AND_CURL), [(), (0,), (1,)])
        self.assertEqual(all_woods(EIGHT_TWINS), [()] + [(k,) for k in range(8)])
        self.assertEqual(len(all_woods(EACH_WITH_EACH)), 38)
        self.assertEqual(len(all_woods(TWO_PARTS)), 14)

    def test_no_ties_and_curls_alone(self):
        for web in (LONE_POINT, LOOSE_POINTS, EIGHT_CURLS, (3, ((1, 1), (2, 2)))):
            self.assertEqual(all_woods(web), [()])

    def test_bridges_alone(self):
        self.assertEqual(all_woods(PATH_OF_NINE), sorted(picks_by_mask(PATH_OF_NINE)))

    def test_each_pick_whose_rank_is_its_size(self):
        for web in many_webs():
            wanted = sorted(pick for pick in picks_by_mask(web) if rank_by_walking(web, pick) == len(pick))
            self.assertEqual(all_woods(web), wanted)

    def test_what_lies_within_a_tree(self):
        for web in many_webs():
            trees = [set(tree) for tree in trees_by_walking(web)]
            wanted = sorted(pick for pick in picks_by_mask(web) if any(tree.issuperset(pick) for tree in trees))
            self.assertEqual(all_woods(web), wanted)


class Holders(unittest.TestCase):
    def test_known_webs(self):
        self.assertEqual(all_holders(TRIANGLE), [(0, 1), (0, 1, 2), (0, 2), (1, 2)])
        self.assertEqual(all_holders(TWIN_AND_CURL), [(0,), (0, 1), (0, 1, 2), (0, 2), (1,), (1, 2)])
        self.assertEqual(all_holders(PATH_OF_NINE), [(0, 1, 2, 3, 4, 5, 6, 7)])
        self.assertEqual(len(all_holders(EIGHT_TWINS)), 255)
        self.assertEqual(len(all_holders(EACH_WITH_EACH)), 38)
        self.assertEqual(len(all_holders(TWO_PARTS)), 8)

    def test_no_ties_and_curls_alone(self):
        for web in (LONE_POINT, LOOSE_POINTS):
            self.assertEqual(all_holders(web), [()])
        self.assertEqual(all_holders(EIGHT_CURLS), sorted(picks_by_mask(EIGHT_CURLS)))
        self.assertEqual(all_holders((3, ((1, 1), (2, 2)))), [(), (0,), (0, 1), (1,)])

    def test_each_pick_that_holds_the_clusters_together(self):
        for web in many_webs():
            whole = clusters_by_walking(web, range(len(web[1])))
            wanted = sorted(pick for pick in picks_by_mask(web) if clusters_by_walking(web, pick) == whole)
            self.assertEqual(all_holders(web), wanted)

    def test_each_pick_with_the_rank_of_the_web(self):
        for web in many_webs():
            whole = rank_by_walking(web, range(len(web[1])))
            wanted = sorted(pick for pick in picks_by_mask(web) if rank_by_walking(web, pick) == whole)
            self.assertEqual(all_holders(web), wanted)


class Counted(unittest.TestCase):
    def test_as_many_as_the_worth(self):
        for web in many_webs():
            poly = by_picks(web)
            self.assertEqual(len(all_woods(web)), worth_at(poly, 2, 1))
            self.assertEqual(len(all_holders(web)), worth_at(poly, 1, 2))
            self.assertEqual(len(all_trees(web)), worth_at(poly, 1, 1))
            self.assertEqual(len(all_picks(web)), worth_at(poly, 2, 2))

    def test_whichever_way_comes_to_the_polynomial(self):
        for web in SAMPLES:
            backwards = list(range(len(web[1])))[::-1]
            for poly in (by_leaving(web), by_leaving(web, backwards), by_trees(web), by_trees(web, backwards)):
                self.assertEqual(len(all_woods(web)), worth_at(poly, 2, 1))
                self.assertEqual(len(all_holders(web)), worth_at(poly, 1, 2))

    def test_trees_are_what_is_both(self):
        for web in many_webs():
            self.assertEqual(sorted(set(all_woods(web)) & set(all_holders(web))), all_trees(web))


class Lists(unittest.TestCase):
    def test_lists_of_tuples_sorted_none_twice(self):
        for told_of in (all_woods, all_holders):
            for web in many_webs():
                told = told_of(web)
                self.assertIs(type(told), list)
                self.assertEqual({type(pick) for pick in told}, {tuple})
                self.assertEqual(told, sorted(set(told)))

    def test_a_told_list_changed_behind_changes_nothing(self):
        for told_of in (all_woods, all_holders):
            for web in SAMPLES:
                before, wanted = (web[0], tuple(web[1])), list(told_of(web))
                told = told_of(web)
                told.append((0,))
                told[0] = None
                self.assertEqual(told_of(web), wanted)
                told.clear()
                self.assertEqual(told_of(web), wanted)
                self.assertEqual(web, before)


if __name__ == "__main__":
    unittest.main()
