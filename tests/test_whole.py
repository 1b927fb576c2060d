"""What holds over the whole program: promises 2 and 3."""

import copy
import itertools
import unittest

from manycounts.clusters import clusters_of, kind_of, rank_of
from manycounts.colours import all_colourings, colour_count, colour_row
from manycounts.corners import corner_at
from manycounts.desk import Desk
from manycounts.drawings import drawing_of, lands_of, other_one, rounds_of, web_of
from manycounts.errors import NotApart, TooMany
from manycounts.flows import all_flows, flow_count, flow_row
from manycounts.gluing import laid_at, laid_beside, renumbered, reordered, turned_over
from manycounts.minors import drawn_together, left_out
from manycounts.pointings import (
    ring_in,
    ring_through,
    ringed_ways,
    ringless_ways,
    rising_of,
    springs_of,
    sprung_ways,
)
from manycounts.polys import exchanged, gathered, product_of, sum_of, worth_at
from manycounts.polytexts import poly_text, read_poly
from manycounts.scores import all_scores
from manycounts.steps import by_leaving, steps_of
from manycounts.stretches import by_trees, inner_ties, outer_ties, tree_of
from manycounts.tables import by_picks, picks_with, size_table
from manycounts.texts import read_web, web_text
from manycounts.trees import all_trees, is_tree
from manycounts.webs import all_picks, made_web
from manycounts.woods import all_holders, all_woods
from samples import (
    ALL_KINDS,
    EACH_WITH_EACH,
    PLAIN_AND_MORE,
    SAMPLES,
    SQUARE_WITH_A_BAR,
    TRIANGLE,
    TWIN_AND_CURL,
    TWO_PARTS,
    WHEEL,
    clusters_by_walking,
    colourings_by_words,
    flows_by_words,
    grown_drawings,
    jumbled_webs,
    picks_by_mask,
    pointings_by_product,
    poly_by_picks,
    rank_by_walking,
    ringed_ties,
    scores_by_words,
    small_webs,
    some_orders,
    springs_by_words,
    trees_by_walking,
    web_by_walking,
    worth_of,
)

X = ((1, 0, 1),)
Y = ((0, 1, 1),)


def webs_of_all_sorts():
    named = list(SAMPLES) + [PLAIN_AND_MORE, SQUARE_WITH_A_BAR, EACH_WITH_EACH, ALL_KINDS]
    drawn = [web_by_walking(turns) for turns in grown_drawings()[::11]]
    return named + list(small_webs())[::13] + list(jumbled_webs())[::3] + drawn


def few_orders(web):
    """The order left out, backwards, and two that jump."""
    plain = list(range(len(web[1])))
    return [None, plain[::-1], plain[1::2] + plain[::2], plain[len(plain) // 2:] + plain[:len(plain) // 2]]


def parts_turned(web):
    """The webs that a part turned over makes of a web, a few."""
    for pick in picks_by_mask(web):
        for u, v in itertools.combinations(range(web[0]), 2):
            try:
                told = turned_over(web, pick, u, v)
            except NotApart:
                continue
            if told != web:
                yield told


def pointings_without_ring(web):
    return [pointing for pointing in pointings_by_product(web) if not ringed_ties(web, pointing)]


def pointings_sprung(web, point):
    clusters = clusters_by_walking(web, range(len(web[1])))
    wanted = sorted(point if point in cluster else cluster[0] for cluster in clusters)
    return [pointing for pointing in pointings_without_ring(web) if springs_by_words(web, pointing) == wanted]


def pointings_all_in_rings(web):
    return [pointing for pointing in pointings_by_product(web) if len(ringed_ties(web, pointing)) == len(web[1])]


class OnePolynomial(unittest.TestCase):
    def assert_one(self, web, poly=None):
        """The three ways tell one polynomial, and the told one where one is told."""
        poly = by_picks(web) if poly is None else poly
        self.assertEqual(by_picks(web), poly)
        for order in few_orders(web):
            self.assertEqual(by_leaving(web, order), poly)
            self.assertEqual(by_trees(web, order), poly)

    def test_by_three_ways(self):
        for web in webs_of_all_sorts():
            with self.subTest(web=web):
                self.assert_one(web, poly_by_picks(web))

    def test_by_many_orders(self):
        for web in (PLAIN_AND_MORE, SQUARE_WITH_A_BAR, ALL_KINDS, TWO_PARTS, TWIN_AND_CURL, TRIANGLE):
            for order in some_orders(len(web[1])):
                self.assertEqual(by_leaving(web, order), by_picks(web))
                self.assertEqual(by_trees(web, tuple(order)), by_picks(web))

    def test_behind_a_tie_left_out_and_drawn_together(self):
        for web in webs_of_all_sorts():
            poly = by_picks(web)
            for k in range(len(web[1])):
                without, within, kind = left_out(web, k), drawn_together(web, k), kind_of(web, k)
                self.assert_one(without)
                self.assert_one(within)
                with self.subTest(web=web, k=k, kind=kind):
                    if kind == "curl":
                        self.assertEqual(product_of(Y, by_picks(without)), poly)
                    if kind == "bridge":
                        self.assertEqual(product_of(X, by_picks(within)), poly)
                    if kind == "plain":
                        self.assertEqual(sum_of(by_picks(without), by_picks(within)), poly)

    def test_behind_another_numbering(self):
        for web in webs_of_all_sorts():
            poly = by_picks(web)
            for places in some_orders(web[0])[1::6]:
                for order in some_orders(len(web[1]))[-1::-5]:
                    self.assert_one(reordered(renumbered(web, places), order), poly)

    def test_behind_a_part_turned_over(self):
        met = 0
        for web in webs_of_all_sorts():
            told = list(itertools.islice(parts_turned(web), 0, 90, 9))
            met += len(told)
            for turned in told:
                self.assert_one(turned, by_picks(web))
                for pick in picks_by_mask(web)[::5]:
                    self.assertEqual(rank_of(turned, pick), rank_by_walking(web, pick))
        self.assertGreater(met, 50)

    def test_behind_webs_put_together(self):
        webs = [web for web in webs_of_all_sorts() if web[0] < 5 and len(web[1]) < 5]
        for one, other in zip(webs, webs[::-1]):
            wanted = product_of(by_picks(one), by_picks(other))
            self.assert_one(laid_beside(one, other), wanted)
            self.assert_one(laid_at(one, one[0] - 1, other, other[0] // 2), wanted)
        self.assertGreater(len(webs), 20)

    def test_behind_the_other_one_of_a_drawing(self):
        for turns in grown_drawings()[::6]:
            drawing = drawing_of(turns)
            self.assert_one(web_of(drawing))
            self.assert_one(web_of(other_one(drawing)), exchanged(by_picks(web_of(drawing))))

    def test_at_a_desk(self):
        for web in webs_of_all_sorts():
            desk = Desk()
            desk.say(f"web a {web_text(web)}")
            self.assertEqual(read_poly(desk.say("poly a")), by_leaving(web))
            self.assertEqual(read_web(desk.say("show a")), web)


class EachPickInOneStretch(unittest.TestCase):
    def test_of_just_one_tree(self):
        for web in webs_of_all_sorts()[::3]:
            for order in few_orders(web)[:2]:
                trees = [(set(tree), set(inner_ties(web, tree, order)), set(outer_ties(web, tree, order)), tree)
                         for tree in all_trees(web)]
                for pick in picks_by_mask(web):
                    held = [tree for ties, inner, outer, tree in trees
                            if ties - set(pick) <= inner and set(pick) - ties <= outer]
                    self.assertEqual([tree_of(web, pick, order)], held)


class Counts(unittest.TestCase):
    def assert_listed(self, web, told, wanted, x, y):
        """The list is that of the things found one by one, and as long as the polynomial's worth."""
        self.assertEqual(told, wanted)
        self.assertEqual(len(told), worth_at(by_picks(web), x, y))

    def test_picks_trees_woods_and_holders(self):
        for web in webs_of_all_sorts():
            picks = picks_by_mask(web)
            ranks = {pick: rank_by_walking(web, pick) for pick in picks}
            whole = ranks[picks[-1]]
            with self.subTest(web=web):
                self.assert_listed(web, all_picks(web), picks, 2, 2)
                self.assert_listed(web, all_trees(web), trees_by_walking(web), 1, 1)
                self.assert_listed(web, all_woods(web), sorted(p for p in picks if ranks[p] == len(p)), 2, 1)
                self.assert_listed(web, all_holders(web), sorted(p for p in picks if ranks[p] == whole), 1, 2)

    def test_trees_by_points_alone(self):
        for web in webs_of_all_sorts():
            joined = len(clusters_by_walking(web, range(len(web[1])))) == 1
            for point in range(web[0]):
                self.assertEqual(corner_at(web, point), len(all_trees(web)) if joined else 0)

    def test_pointings_and_scores(self):
        for web in webs_of_all_sorts():
            with self.subTest(web=web):
                self.assert_listed(web, ringless_ways(web), pointings_without_ring(web), 2, 0)
                for point in {0, web[0] - 1}:
                    self.assert_listed(web, sprung_ways(web, point), pointings_sprung(web, point), 1, 0)
                self.assert_listed(web, ringed_ways(web), pointings_all_in_rings(web), 0, 2)
                self.assert_listed(web, all_scores(web), scores_by_words(web), 2, 1)

    def test_colourings(self):
        for web in webs_of_all_sorts():
            rank = rank_by_walking(web, range(len(web[1])))
            for q in itertools.takewhile(lambda q: q ** web[0] <= 1000, range(8)):
                worth = (-1) ** rank * q ** (web[0] - rank) * worth_at(by_picks(web), 1 - q, 0)
                self.assertEqual(all_colourings(web, q), colourings_by_words(web, q))
                self.assertEqual([len(all_colourings(web, q)), colour_count(web, q)], [worth, worth])

    def test_flows(self):
        for web in webs_of_all_sorts():
            many = len(web[1])
            rank = rank_by_walking(web, range(many))
            for q in itertools.takewhile(lambda q: (q - 1) ** many <= 1000, range(1, 8)):
                worth = (-1) ** (many - rank) * worth_at(by_picks(web), 0, 1 - q)
                self.assertEqual(all_flows(web, q), flows_by_words(web, q))
                self.assertEqual([len(all_flows(web, q)), flow_count(web, q)], [worth, worth])

    def test_any_number_of_colours_and_flows(self):
        for web in webs_of_all_sorts():
            many = len(web[1])
            rank = rank_by_walking(web, range(many))
            for q in (1000, 10**30, 10**60 - 1):
                colours = (-1) ** rank * q ** (web[0] - rank) * worth_at(by_leaving(web), 1 - q, 0)
                flows = (-1) ** (many - rank) * worth_at(by_trees(web), 0, 1 - q)
                self.assertEqual([colour_count(web, q), flow_count(web, q)], [colours, flows])
                self.assertEqual(worth_of(colour_row(web), q), colours)
                self.assertEqual(worth_of(flow_row(web), q), flows)

    def test_colourings_of_the_one_are_flows_of_the_other(self):
        for turns in grown_drawings()[::4]:
            # Joined, a web has q times as many colourings as its other one has flows.
            self.assertEqual(colour_row(web_of(turns)) or [0], [0] + flow_row(web_of(other_one(turns))))

    def test_at_a_desk(self):
        listed = {"picks": all_picks, "trees": all_trees, "woods": all_woods, "holders": all_holders,
                  "ringless": ringless_ways, "sprung": sprung_ways, "ringed": ringed_ways, "scores": all_scores}
        for web in webs_of_all_sorts()[::2]:
            desk = Desk()
            desk.say(f"web a {web_text(web)}")
            for word, things in listed.items():
                self.assertEqual(desk.say(f"count a {word}"), str(len(things(web))))


class Stays(unittest.TestCase):
    def told_lists(self, web):
        """Questions that are answered with a list."""
        tree, pointing = all_trees(web)[0], (0,) * len(web[1])
        questions = [lambda: all_picks(web), lambda: clusters_of(web, tree), lambda: steps_of(web).leaves(),
                     lambda: size_table(web), lambda: picks_with(web, 1, 1), lambda: all_trees(web),
                     lambda: all_woods(web), lambda: all_holders(web), lambda: ring_in(web, (1,) * len(web[1])),
                     lambda: rising_of(web, pointing), lambda: springs_of(web, pointing), lambda: ringless_ways(web),
                     lambda: sprung_ways(web), lambda: ringed_ways(web), lambda: all_scores(web),
                     lambda: all_colourings(web, 2), lambda: colour_row(web), lambda: all_flows(web, 2),
                     lambda: flow_row(web)]
        return questions + [lambda k=k: ring_through(web, pointing, k) for k in range(len(web[1]))]

    def test_a_told_list_changed_behind_changes_nothing(self):
        for web in webs_of_all_sorts()[::2]:
            before = copy.deepcopy(web)
            for question in self.told_lists(web):
                self.assert_own(question)
            self.assertEqual(web, before)
        for turns in grown_drawings()[::9]:
            before = copy.deepcopy(turns)
            self.assert_own(lambda: rounds_of(turns))
            self.assert_own(lambda: lands_of(turns))
            self.assertEqual(turns, before)

    def assert_own(self, question):
        wanted = copy.deepcopy(question())
        told = question()
        if told is None:
            self.assertIsNone(wanted)
            return
        for inner in told:
            if isinstance(inner, list):
                inner.reverse()
                inner.append(None)
        told.append("x")
        self.assertEqual(question(), wanted)
        told.clear()
        self.assertEqual(question(), wanted)

    def test_a_list_that_is_handed_in_stays_and_is_not_kept(self):
        order, places, ties = [4, 0, 3, 1, 2], [3, 0, 2, 1], [(2, 0), (0, 1)]
        terms, turns = [(1, 0, 2), (0, 0, 0), (1, 0, 1)], [5, 2, 1, 4, 3, 0]
        handed = (order, places, ties, terms, turns)
        before = copy.deepcopy(handed)
        web = SQUARE_WITH_A_BAR
        step = steps_of(web, order)
        told = [made_web(3, ties), gathered(terms), by_leaving(web, order), by_trees(web, order), step.leaves(),
                inner_ties(web, (0, 1, 2), order), outer_ties(web, (0, 1, 2), order), tree_of(web, (), order),
                renumbered(web, places), reordered(web, order), drawing_of(turns)]
        self.assertEqual(handed, before)
        wanted = copy.deepcopy(told)
        for one in handed:
            one.clear()
        self.assertEqual(told, wanted)
        self.assertEqual(step.leaves(), wanted[4])

    def test_what_is_refused_changes_nothing_either(self):
        places, order, turns = [0, 1, 1], [0, 1], [2, 3, 1, 0]
        before = copy.deepcopy((places, order, turns))
        for asked in (lambda: renumbered(TRIANGLE, places), lambda: reordered(TRIANGLE, order),
                      lambda: drawing_of(turns)):
            with self.assertRaises(ValueError):
                asked()
        self.assertEqual((places, order, turns), before)

    def test_the_same_is_told_alike(self):
        for web in (WHEEL, ALL_KINDS, TWO_PARTS):
            self.assertEqual(poly_text(by_picks(web)), poly_text(by_picks(copy.deepcopy(web))))
            for question in self.told_lists(web):
                self.assertEqual(question(), question())
            with self.assertRaises(TooMany):
                laid_beside(web, WHEEL)
            self.assertTrue(all(is_tree(web, tree) for tree in all_trees(web)))


if __name__ == "__main__":
    unittest.main()
