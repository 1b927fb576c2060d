"""Inner and outer ties, stretches and the polynomial by trees: promises 2, 3, 12, 17 and 18."""

import unittest

from manycounts.clusters import kind_of
from manycounts.errors import NoOrder
from manycounts.steps import by_leaving, steps_of
from manycounts.stretches import by_trees, inner_ties, outer_ties, tree_of
from manycounts.tables import by_picks
from manycounts.trees import all_trees
from samples import (
    ALL_KINDS,
    EACH_WITH_EACH,
    EIGHT_CURLS,
    EIGHT_TWINS,
    LONE_POINT,
    LOOSE_POINTS,
    PATH_OF_NINE,
    PLAIN_AND_MORE,
    SAMPLES,
    SQUARE_WITH_A_BAR,
    TRIANGLE,
    TWIN_AND_CURL,
    TWO_PARTS,
    WHEEL,
    every_order,
    many_webs,
    picks_by_mask,
    poly_by_picks,
    some_orders,
    trees_by_walking,
    wrong_orders,
)

ONE = ((0, 0, 1),)
FEW_TIES = (TRIANGLE, TWIN_AND_CURL, PLAIN_AND_MORE, SQUARE_WITH_A_BAR, TWO_PARTS)
SIX_TIES = (EACH_WITH_EACH, ALL_KINDS)


def in_place_of(tree, held, other):
    """The tree with another tie in the place of one that it holds."""
    return tuple(sorted([tie for tie in tree if tie != held] + [other]))


def inner_by_trees(trees, tree, order):
    """The inner ties, each tried in its place against the whole list of trees."""
    inner = []
    for held in tree:
        fit = [tie for tie in order if in_place_of(tree, held, tie) in trees]
        if fit[0] == held:
            inner.append(held)
    return tuple(inner)


def outer_by_trees(trees, tree, order):
    """The outer ties, each tried in all places against the whole list of trees."""
    outer = []
    for other in sorted(set(order) - set(tree)):
        fit = [tie for tie in order if tie == other or (tie in tree and in_place_of(tree, tie, other) in trees)]
        if fit[0] == other:
            outer.append(other)
    return tuple(outer)


def stretch_of(picks, tree, inner, outer):
    """The stretch of a tree, out of all picks."""
    needed, allowed = set(tree) - set(inner), set(tree) | set(outer)
    return [pick for pick in picks if needed <= set(pick) <= allowed]


def orders_of(web):
    """Every order of up to five ties, some of more."""
    many = len(web[1])
    return every_order(many) if web in FEW_TIES else some_orders(many)


class InnerAndOuter(unittest.TestCase):
    def test_known_webs(self):
        trees = ((0, 1), (0, 2), (1, 2))
        told = [(inner_ties(TRIANGLE, tree), outer_ties(TRIANGLE, tree)) for tree in trees]
        self.assertEqual(told, [((0, 1), ()), ((0,), ()), ((), (0,))])
        order = [2, 0, 1]
        told = [(inner_ties(TRIANGLE, tree, order), outer_ties(TRIANGLE, tree, order)) for tree in trees]
        self.assertEqual(told, [((), (2,)), ((0, 2), ()), ((2,), ())])
        self.assertEqual(inner_ties(TWIN_AND_CURL, (0,)), (0,))
        self.assertEqual(outer_ties(TWIN_AND_CURL, (0,)), (2,))
        self.assertEqual(inner_ties(TWIN_AND_CURL, (1,)), ())
        self.assertEqual(outer_ties(TWIN_AND_CURL, (1,)), (0, 2))
        self.assertEqual(inner_ties(TWIN_AND_CURL, (1,), [2, 1, 0]), (1,))
        self.assertEqual(outer_ties(TWIN_AND_CURL, (1,), [2, 1, 0]), (2,))

    def test_rising_whatever_the_order(self):
        backwards = list(range(7, -1, -1))
        self.assertEqual(inner_ties(PATH_OF_NINE, tuple(range(8)), backwards), tuple(range(8)))
        self.assertEqual(outer_ties(PATH_OF_NINE, tuple(range(8)), backwards), ())
        self.assertEqual(inner_ties(EIGHT_CURLS, (), backwards), ())
        self.assertEqual(outer_ties(EIGHT_CURLS, (), backwards), tuple(range(8)))
        self.assertEqual(inner_ties(EIGHT_TWINS, (3,), backwards), ())
        self.assertEqual(outer_ties(EIGHT_TWINS, (3,), backwards), (4, 5, 6, 7))
        self.assertEqual(inner_ties(EIGHT_TWINS, (7,), backwards), (7,))
        self.assertEqual(outer_ties(EIGHT_TWINS, (7,), backwards), ())

    def test_without_ties(self):
        for web in (LONE_POINT, LOOSE_POINTS):
            for order in (None, [], ()):
                self.assertEqual(inner_ties(web, (), order), ())
                self.assertEqual(outer_ties(web, (), order), ())

    def test_as_tried_in_every_place(self):
        for web in many_webs():
            trees = trees_by_walking(web)
            for order in orders_of(web):
                for tree in trees:
                    inner, outer = inner_ties(web, tree, order), outer_ties(web, tree, order)
                    self.assertEqual(inner, inner_by_trees(trees, tree, order))
                    self.assertEqual(outer, outer_by_trees(trees, tree, order))
                    self.assertEqual({type(inner), type(outer)}, {tuple})

    def test_a_curl_is_outer_always_a_bridge_inner_always(self):
        for web in many_webs():
            kinds = [kind_of(web, k) for k in range(len(web[1]))]
            for order in some_orders(len(web[1]))[:6]:
                for tree in all_trees(web):
                    inner, outer = inner_ties(web, tree, order), outer_ties(web, tree, order)
                    self.assertEqual([k in outer for k, kind in enumerate(kinds) if kind == "curl"],
                                     [True] * kinds.count("curl"))
                    self.assertEqual([k in inner for k, kind in enumerate(kinds) if kind == "bridge"],
                                     [True] * kinds.count("bridge"))

    def assert_leaves(self, web, order):
        trees = all_trees(web)
        told = [(tree, inner_ties(web, tree, order), outer_ties(web, tree, order)) for tree in trees]
        self.assertEqual(steps_of(web, order).leaves(), told)

    def test_the_leaves_of_the_steps_by_the_same_order(self):
        for web in many_webs():
            for order in orders_of(web):
                self.assert_leaves(web, order)

    def test_the_leaves_of_the_steps_by_every_order_of_six_ties(self):
        for web in SIX_TIES:
            for order in every_order(6):
                self.assert_leaves(web, order)


class Stretches(unittest.TestCase):
    def test_known_webs(self):
        wanted = {(): (0, 1), (0,): (0, 1), (1,): (0, 1), (0, 1): (0, 1), (2,): (0, 2), (0, 2): (0, 2),
                  (1, 2): (1, 2), (0, 1, 2): (1, 2)}
        for pick, tree in wanted.items():
            self.assertEqual(tree_of(TRIANGLE, pick), tree)
        wanted = {(): (0, 2), (0,): (0, 2), (2,): (0, 2), (0, 2): (0, 2), (1,): (1, 2), (1, 2): (1, 2),
                  (0, 1): (0, 1), (0, 1, 2): (0, 1)}
        for pick, tree in wanted.items():
            self.assertEqual(tree_of(TRIANGLE, pick, [2, 0, 1]), tree)

    def test_every_pick_in_the_one_stretch(self):
        for pick in picks_by_mask(PATH_OF_NINE):
            self.assertEqual(tree_of(PATH_OF_NINE, pick), tuple(range(8)))
        for pick in picks_by_mask(EIGHT_CURLS):
            self.assertEqual(tree_of(EIGHT_CURLS, pick), ())
        for web in (LONE_POINT, LOOSE_POINTS):
            for order in (None, [], ()):
                self.assertEqual(tree_of(web, (), order), ())

    def test_ties_of_the_same_two_ends(self):
        self.assertEqual(tree_of(EIGHT_TWINS, ()), (0,))
        for pick in picks_by_mask(EIGHT_TWINS)[1:]:
            self.assertEqual(tree_of(EIGHT_TWINS, pick), pick[-1:])
            self.assertEqual(tree_of(EIGHT_TWINS, pick, list(range(7, -1, -1))), pick[:1])

    def assert_just_one(self, web, order, trees, picks):
        """Each pick lies in the stretch of just one tree, and that tree is told."""
        found = {}
        for tree in trees:
            inner, outer = inner_by_trees(trees, tree, order), outer_by_trees(trees, tree, order)
            for pick in stretch_of(picks, tree, inner, outer):
                self.assertNotIn(pick, found)
                found[pick] = tree
        self.assertEqual({pick: tree_of(web, pick, order) for pick in picks}, found)

    def test_each_pick_lies_in_the_stretch_of_just_one_tree(self):
        for web in many_webs():
            trees, picks = trees_by_walking(web), picks_by_mask(web)
            orders = orders_of(web) if len(picks) <= 32 else some_orders(len(web[1]))[1::7]
            for order in orders:
                self.assert_just_one(web, order, trees, picks)

    def test_told_as_a_pick(self):
        for web in many_webs():
            for order in some_orders(len(web[1]))[-2:]:
                told = [tree_of(web, pick, order) for pick in picks_by_mask(web)]
                self.assertEqual({type(tree) for tree in told}, {tuple})
                self.assertEqual(sorted(set(told)), all_trees(web))

    def test_a_tree_lies_in_its_own_stretch(self):
        for web in many_webs():
            for order in some_orders(len(web[1]))[:8]:
                for tree in all_trees(web):
                    self.assertEqual(tree_of(web, tree, order), tree)


class ByTrees(unittest.TestCase):
    def test_known_webs(self):
        self.assertEqual(by_trees(LONE_POINT), ONE)
        self.assertEqual(by_trees(LOOSE_POINTS), ONE)
        self.assertEqual(by_trees(TRIANGLE), ((0, 1, 1), (1, 0, 1), (2, 0, 1)))
        self.assertEqual(by_trees(TWIN_AND_CURL), ((0, 2, 1), (1, 1, 1)))
        self.assertEqual(by_trees(PATH_OF_NINE), ((8, 0, 1),))
        self.assertEqual(by_trees(EIGHT_CURLS), ((0, 8, 1),))
        self.assertEqual(by_trees(EIGHT_TWINS), tuple((0, j, 1) for j in range(1, 8)) + ((1, 0, 1),))

    def test_the_three_ways_tell_one_polynomial(self):
        for web in many_webs():
            wanted = by_picks(web)
            self.assertEqual(wanted, poly_by_picks(web))
            for order in orders_of(web):
                self.assertEqual(by_trees(web, order), wanted)
                self.assertEqual(by_leaving(web, order), wanted)

    def test_every_order_of_six_ties(self):
        for web in SIX_TIES:
            wanted = by_picks(web)
            for order in every_order(6):
                self.assertEqual(by_trees(web, order), wanted)


class Orders(unittest.TestCase):
    """All four by a list, a tuple, None and left out, and by what is no order."""

    def told(self, web, *order):
        trees = all_trees(web)
        inner = [inner_ties(web, tree, *order) for tree in trees]
        outer = [outer_ties(web, tree, *order) for tree in trees]
        return (inner, outer, [tree_of(web, pick, *order) for pick in picks_by_mask(web)], by_trees(web, *order))

    def test_a_list_a_tuple_none_and_left_out(self):
        for web in SAMPLES + FEW_TIES:
            plain = list(range(len(web[1])))
            wanted = self.told(web, plain)
            self.assertEqual(self.told(web), wanted)
            self.assertEqual(self.told(web, None), wanted)
            self.assertEqual(self.told(web, tuple(plain)), wanted)
            turned = plain[1:] + plain[:1]
            self.assertEqual(self.told(web, turned), self.told(web, tuple(turned)))

    def test_by_its_name(self):
        self.assertEqual(inner_ties(web=TRIANGLE, tree=(1, 2), order=[2, 1, 0]), (1, 2))
        self.assertEqual(outer_ties(web=TRIANGLE, tree=(0, 1), order=(2, 1, 0)), (2,))
        self.assertEqual(tree_of(web=TRIANGLE, pick=(), order=[2, 1, 0]), (1, 2))
        self.assertEqual(by_trees(web=TRIANGLE, order=[2, 1, 0]), by_trees(TRIANGLE))

    def test_what_is_no_order(self):
        for web in SAMPLES + FEW_TIES:
            tree = all_trees(web)[-1]
            for order in wrong_orders(web):
                for asked in (inner_ties, outer_ties, tree_of):
                    with self.subTest(web=web, order=order, asked=asked), self.assertRaises(NoOrder):
                        asked(web, tree, order)
                with self.subTest(web=web, order=order), self.assertRaises(NoOrder):
                    by_trees(web, order)

    def test_the_order_handed_in_stays(self):
        order = [3, 0, 4, 1, 2]
        told = self.told(SQUARE_WITH_A_BAR, order)
        self.assertEqual(order, [3, 0, 4, 1, 2])
        order.reverse()
        self.assertNotEqual(self.told(SQUARE_WITH_A_BAR, order), told)
        self.assertEqual(order, [2, 1, 4, 0, 3])
        order.reverse()
        self.assertEqual(self.told(SQUARE_WITH_A_BAR, order), told)
        wrong = [2, 0, 0]
        with self.assertRaises(NoOrder):
            by_trees(TRIANGLE, wrong)
        self.assertEqual(wrong, [2, 0, 0])

    def test_a_told_list_of_trees_changed_behind_changes_nothing(self):
        for web in (WHEEL, TWO_PARTS, LONE_POINT):
            wanted = self.told(web)
            trees = all_trees(web)
            trees.clear()
            self.assertEqual(self.told(web), wanted)


if __name__ == "__main__":
    unittest.main()
