"""Pointings: promises 2, 3, 6, 21 and 22."""

import itertools
import unittest

from manycounts.errors import NoPoint, NoSuch
from manycounts.pointings import (
    ring_in,
    ring_through,
    ringed_ways,
    ringless_ways,
    rising_of,
    springs_of,
    sprung_ways,
)
from manycounts.polys import worth_at
from manycounts.steps import by_leaving
from manycounts.stretches import by_trees
from manycounts.tables import by_picks
from samples import (
    ALL_KINDS,
    EACH_WITH_EACH,
    EIGHT_CURLS,
    EIGHT_TWINS,
    FAR_NUMBERS,
    LONE_POINT,
    LOOSE_POINTS,
    ODD_THINGS,
    PATH_OF_NINE,
    SAMPLES,
    SQUARE_WITH_A_BAR,
    TRIANGLE,
    TWIN_AND_CURL,
    TWO_PARTS,
    clusters_by_walking,
    led,
    many_webs,
    pointings_by_product,
    ringed_ties,
    small_webs,
    springs_by_words,
    wrong_points,
)

RING_OF_EIGHT = (8, tuple((k, k + 1) for k in range(7)) + ((0, 7),))
EIGHT_OF_TIES = (5, ((0, 1), (1, 2), (0, 2), (2, 3), (3, 4), (2, 4)))


def is_ring(web, pointing, ties):
    """Whether ties are a ring of the pointing, word by word."""
    leads = [led(web, pointing, k) for k in ties]
    follow = all(leads[at - 1][1] == leads[at][0] for at in range(len(ties)))
    met = [lead[0] for lead in leads]
    return len(ties) > 0 and len(set(ties)) == len(ties) and follow and len(set(met)) == len(met)


def all_rings(web, pointing):
    """Each ring of a pointing, tried one by one: for webs of few ties."""
    many = len(web[1])
    tries = [ties for size in range(1, many + 1) for ties in itertools.permutations(range(many), size)]
    return [list(ties) for ties in tries if is_ring(web, pointing, ties)]


class Rings(unittest.TestCase):
    def assert_ring(self, web, pointing, told):
        self.assertIs(type(told), list)
        self.assertEqual({type(k) for k in told}, {int})
        self.assertTrue(is_ring(web, pointing, told), (web, pointing, told))

    def test_a_triangle(self):
        self.assertIn(ring_in(TRIANGLE, (0, 1, 0)), ([0, 2, 1], [2, 1, 0], [1, 0, 2]))
        self.assertIn(ring_in(TRIANGLE, (1, 0, 1)), ([0, 1, 2], [1, 2, 0], [2, 0, 1]))
        for pointing in ((0, 0, 0), (0, 0, 1), (0, 1, 1), (1, 0, 0), (1, 1, 0), (1, 1, 1)):
            self.assertIsNone(ring_in(TRIANGLE, pointing))
        self.assertEqual(ring_through(TRIANGLE, (0, 1, 0), 0), [0, 2, 1])
        self.assertEqual(ring_through(TRIANGLE, (0, 1, 0), 1), [1, 0, 2])
        self.assertEqual(ring_through(TRIANGLE, (0, 1, 0), 2), [2, 1, 0])
        self.assertEqual(ring_through(TRIANGLE, (1, 0, 1), 1), [1, 2, 0])
        for k in range(3):
            self.assertIsNone(ring_through(TRIANGLE, (0, 0, 0), k))

    def test_a_curl_is_a_ring_both_ways(self):
        for way in (0, 1):
            self.assertEqual(ring_in((1, ((0, 0),)), (way,)), [0])
            self.assertEqual(ring_through((1, ((0, 0),)), (way,), 0), [0])
            self.assertEqual(ring_in(TWIN_AND_CURL, (0, 0, way)), [2])
            self.assertEqual(ring_through(TWIN_AND_CURL, (0, 1, way), 2), [2])
        for k in range(8):
            self.assertEqual(ring_through(EIGHT_CURLS, (0, 1) * 4, k), [k])

    def test_ties_of_the_same_two_ends(self):
        web = (2, ((0, 1), (0, 1)))
        self.assertIsNone(ring_in(web, (0, 0)))
        self.assertIsNone(ring_in(web, (1, 1)))
        self.assertEqual(ring_through(web, (0, 1), 0), [0, 1])
        self.assertEqual(ring_through(web, (0, 1), 1), [1, 0])
        self.assertEqual(ring_through(web, (1, 0), 1), [1, 0])

    def test_the_longest_ring(self):
        forth = (0,) * 7 + (1,)
        for k in range(8):
            self.assertEqual(ring_through(RING_OF_EIGHT, forth, k), [(k + step) % 8 for step in range(8)])
        self.assertIsNone(ring_in(RING_OF_EIGHT, (0,) * 8))

    def test_no_point_is_met_twice_where_two_rings_touch(self):
        pointing = (0, 0, 1, 0, 0, 1)
        self.assertEqual(ring_through(EIGHT_OF_TIES, pointing, 0), [0, 1, 2])
        self.assertEqual(ring_through(EIGHT_OF_TIES, pointing, 5), [5, 3, 4])
        self.assert_ring(EIGHT_OF_TIES, pointing, ring_in(EIGHT_OF_TIES, pointing))

    def test_a_ring_that_is_not_through_the_told_tie(self):
        web = (4, ((0, 1), (1, 2), (0, 2), (2, 3)))
        self.assertIsNone(ring_through(web, (0, 0, 1, 0), 3))
        self.assertIsNone(ring_through(web, (0, 0, 1, 1), 3))
        self.assertEqual(ring_through(web, (0, 0, 1, 1), 1), [1, 2, 0])
        self.assertIsNone(ring_through((2, ((0, 1), (1, 1))), (0, 0), 0))

    def test_no_ties_and_bridges_alone(self):
        self.assertIsNone(ring_in(LONE_POINT, ()))
        self.assertIsNone(ring_in(LOOSE_POINTS, ()))
        for pointing in pointings_by_product(PATH_OF_NINE):
            self.assertIsNone(ring_in(PATH_OF_NINE, pointing))
            self.assertIsNone(ring_through(PATH_OF_NINE, pointing, 4))

    def test_each_pointing_of_webs_of_few_ties_by_all_rings(self):
        for web in list(small_webs()) + [SQUARE_WITH_A_BAR, TWO_PARTS]:
            for pointing in pointings_by_product(web):
                rings = all_rings(web, pointing)
                told = ring_in(web, pointing)
                self.assertTrue(told in rings if rings else told is None, (web, pointing, told))
                for k in range(len(web[1])):
                    through = [ring for ring in rings if ring[0] == k]
                    told = ring_through(web, pointing, k)
                    self.assertTrue(told in through if through else told is None, (web, pointing, k, told))

    def test_each_pointing_of_many_webs(self):
        for web in many_webs():
            for pointing in pointings_by_product(web):
                ringed = ringed_ties(web, pointing)
                told = ring_in(web, pointing)
                if ringed:
                    self.assert_ring(web, pointing, told)
                else:
                    self.assertIsNone(told)
                for k in range(len(web[1])):
                    told = ring_through(web, pointing, k)
                    if k in ringed:
                        self.assert_ring(web, pointing, told)
                        self.assertEqual(told[0], k)
                    else:
                        self.assertIsNone(told)

    def test_what_is_no_number_of_a_tie(self):
        for web in SAMPLES:
            many = len(web[1])
            for pointing in ((0,) * many, (1,) * many):
                for k in ODD_THINGS + FAR_NUMBERS + (many, many + 1, -many - 1, "2", [0]):
                    with self.subTest(web=web, k=k), self.assertRaises(NoSuch):
                        ring_through(web, pointing, k)


class Risings(unittest.TestCase):
    def test_known_webs(self):
        self.assertEqual(rising_of(TRIANGLE, (0, 0, 0)), [0, 1, 2])
        self.assertEqual(rising_of(TRIANGLE, (1, 1, 1)), [2, 1, 0])
        self.assertEqual(rising_of(TRIANGLE, (0, 1, 1)), [2, 0, 1])
        self.assertIsNone(rising_of(TRIANGLE, (0, 1, 0)))
        self.assertIsNone(rising_of(TRIANGLE, (1, 0, 1)))
        self.assertEqual(rising_of(PATH_OF_NINE, (1,) * 8), [8, 7, 6, 5, 4, 3, 2, 1, 0])

    def test_no_ties(self):
        self.assertEqual(rising_of(LONE_POINT, ()), [0])
        self.assertEqual(sorted(rising_of(LOOSE_POINTS, ())), list(range(9)))

    def test_none_where_there_is_a_curl(self):
        for web in (EIGHT_CURLS, TWIN_AND_CURL, TWO_PARTS, (2, ((0, 1), (1, 1)))):
            for pointing in pointings_by_product(web):
                self.assertIsNone(rising_of(web, pointing))

    def test_each_pointing_of_many_webs(self):
        for web in many_webs():
            for pointing in pointings_by_product(web):
                told = rising_of(web, pointing)
                self.assertEqual(told is None, bool(ringed_ties(web, pointing)))
                self.assertEqual(told is None, ring_in(web, pointing) is not None)
                if told is not None:
                    self.assertIs(type(told), list)
                    self.assertEqual(sorted(told), list(range(web[0])))
                    for k in range(len(web[1])):
                        start, end = led(web, pointing, k)
                        self.assertLess(told.index(start), told.index(end))


class Springs(unittest.TestCase):
    def test_known_webs(self):
        self.assertEqual(springs_of(TRIANGLE, (0, 0, 0)), [0])
        self.assertEqual(springs_of(TRIANGLE, (1, 1, 1)), [2])
        self.assertEqual(springs_of(TRIANGLE, (0, 1, 0)), [])
        self.assertEqual(springs_of(PATH_OF_NINE, (0, 1) * 4), [0, 2, 4, 6, 8])
        self.assertEqual(springs_of(PATH_OF_NINE, (1, 0) * 4), [1, 3, 5, 7])

    def test_no_ties(self):
        self.assertEqual(springs_of(LONE_POINT, ()), [0])
        self.assertEqual(springs_of(LOOSE_POINTS, ()), list(range(9)))

    def test_a_curl_leads_to_its_point(self):
        for way in (0, 1):
            self.assertEqual(springs_of((1, ((0, 0),)), (way,)), [])
            self.assertEqual(springs_of((2, ((0, 1), (0, 0))), (0, way)), [])
            self.assertEqual(springs_of((2, ((0, 1), (0, 0))), (1, way)), [1])
            self.assertEqual(springs_of(TWIN_AND_CURL, (0, 0, way)), [0])
            self.assertEqual(springs_of((3, ((1, 1),)), (way,)), [0, 2])

    def test_each_pointing_of_many_webs(self):
        for web in many_webs():
            for pointing in pointings_by_product(web):
                told = springs_of(web, pointing)
                self.assertIs(type(told), list)
                self.assertEqual(told, springs_by_words(web, pointing))


def sprung_by_words(web, point):
    """The pointings without a ring, with just the springs that are told for this point."""
    found = []
    for pointing in pointings_by_product(web):
        springs = springs_by_words(web, pointing)
        fits = not ringed_ties(web, pointing)
        for cluster in clusters_by_walking(web, range(len(web[1]))):
            wanted = [point] if point in cluster else [min(cluster)]
            fits = fits and [spring for spring in springs if spring in cluster] == wanted
        if fits:
            found.append(pointing)
    return found


class Ways(unittest.TestCase):
    def test_a_triangle(self):
        rings = [(0, 1, 0), (1, 0, 1)]
        self.assertEqual(ringed_ways(TRIANGLE), rings)
        wanted = [pointing for pointing in pointings_by_product(TRIANGLE) if pointing not in rings]
        self.assertEqual(ringless_ways(TRIANGLE), wanted)
        self.assertEqual(sprung_ways(TRIANGLE), [(0, 0, 0), (0, 0, 1)])
        self.assertEqual(sprung_ways(TRIANGLE, 0), [(0, 0, 0), (0, 0, 1)])
        self.assertEqual(sprung_ways(TRIANGLE, 1), [(1, 0, 0), (1, 1, 0)])
        self.assertEqual(sprung_ways(TRIANGLE, 2), [(0, 1, 1), (1, 1, 1)])

    def test_no_ties(self):
        for web in (LONE_POINT, LOOSE_POINTS):
            self.assertEqual(ringless_ways(web), [()])
            self.assertEqual(ringed_ways(web), [()])
            for point in range(web[0]):
                self.assertEqual(sprung_ways(web, point), [()])

    def test_curls(self):
        for web in (EIGHT_CURLS, TWIN_AND_CURL, TWO_PARTS, (9, ((8, 8),))):
            self.assertEqual(ringless_ways(web), [])
            for point in range(web[0]):
                self.assertEqual(sprung_ways(web, point), [])
        self.assertEqual(ringed_ways(EIGHT_CURLS), pointings_by_product(EIGHT_CURLS))
        self.assertEqual(ringed_ways(TWIN_AND_CURL), [(0, 1, 0), (0, 1, 1), (1, 0, 0), (1, 0, 1)])
        self.assertEqual(ringed_ways(TWO_PARTS), [])

    def test_bridges(self):
        self.assertEqual(ringless_ways(PATH_OF_NINE), pointings_by_product(PATH_OF_NINE))
        self.assertEqual(ringed_ways(PATH_OF_NINE), [])
        for point in range(9):
            self.assertEqual(sprung_ways(PATH_OF_NINE, point), [(1,) * point + (0,) * (8 - point)])

    def test_ties_of_the_same_two_ends(self):
        self.assertEqual(ringless_ways(EIGHT_TWINS), [(0,) * 8, (1,) * 8])
        self.assertEqual(sprung_ways(EIGHT_TWINS), [(0,) * 8])
        self.assertEqual(sprung_ways(EIGHT_TWINS, 1), [(1,) * 8])
        self.assertEqual(len(ringed_ways(EIGHT_TWINS)), 254)

    def test_several_clusters(self):
        web = (5, ((1, 3), (0, 4), (1, 3)))
        self.assertEqual(ringless_ways(web), [(0, 0, 0), (0, 1, 0), (1, 0, 1), (1, 1, 1)])
        self.assertEqual(sprung_ways(web), [(0, 0, 0)])
        self.assertEqual(sprung_ways(web, 1), [(0, 0, 0)])
        self.assertEqual(sprung_ways(web, 2), [(0, 0, 0)])
        self.assertEqual(sprung_ways(web, 3), [(1, 0, 1)])
        self.assertEqual(sprung_ways(web, 4), [(0, 1, 0)])
        self.assertEqual(ringed_ways((4, ((0, 2), (1, 3), (0, 2), (1, 3)))), [
            (0, 0, 1, 1), (0, 1, 1, 0), (1, 0, 0, 1), (1, 1, 0, 0)])

    def test_each_pointing_of_many_webs(self):
        for web in many_webs():
            pointings = pointings_by_product(web)
            ties = list(range(len(web[1])))
            self.assertEqual(ringless_ways(web), [way for way in pointings if not ringed_ties(web, way)])
            self.assertEqual(ringed_ways(web), [way for way in pointings if ringed_ties(web, way) == ties])

    def test_each_pointing_sprung_at_each_point(self):
        for web in list(SAMPLES) + [ALL_KINDS, EACH_WITH_EACH] + list(small_webs()):
            for point in range(web[0]):
                self.assertEqual(sprung_ways(web, point), sprung_by_words(web, point))

    def test_as_many_as_the_worth(self):
        for web in many_webs():
            poly = by_picks(web)
            self.assertEqual(len(ringless_ways(web)), worth_at(poly, 2, 0))
            self.assertEqual(len(ringed_ways(web)), worth_at(poly, 0, 2))
            for point in range(web[0]):
                self.assertEqual(len(sprung_ways(web, point)), worth_at(poly, 1, 0))

    def test_whichever_way_comes_to_the_polynomial(self):
        for web in SAMPLES:
            backwards = list(range(len(web[1])))[::-1]
            for poly in (by_leaving(web), by_leaving(web, backwards), by_trees(web), by_trees(web, backwards)):
                self.assertEqual(len(ringless_ways(web)), worth_at(poly, 2, 0))
                self.assertEqual(len(sprung_ways(web)), worth_at(poly, 1, 0))
                self.assertEqual(len(ringed_ways(web)), worth_at(poly, 0, 2))

    def test_the_point_left_out_is_0(self):
        for web in many_webs():
            self.assertEqual(sprung_ways(web), sprung_ways(web, 0))
            self.assertEqual(sprung_ways(web), sprung_ways(web, point=0))

    def test_lists_of_tuples_of_0_and_1(self):
        for web in SAMPLES:
            for told in (ringless_ways(web), ringed_ways(web), sprung_ways(web)):
                self.assertIs(type(told), list)
                self.assertEqual(told, sorted(set(told)))
                for pointing in told:
                    self.assertIs(type(pointing), tuple)
                    self.assertEqual([type(way) for way in pointing], [int] * len(web[1]))

    def test_what_is_no_point(self):
        for web in SAMPLES:
            for point in wrong_points(web):
                with self.subTest(web=web, point=point), self.assertRaises(NoPoint):
                    sprung_ways(web, point)


class Stays(unittest.TestCase):
    def test_lists_of_pointings_changed_behind_change_nothing(self):
        for web in SAMPLES:
            for told_of in (ringless_ways, sprung_ways, ringed_ways):
                before, wanted = (web[0], tuple(web[1])), list(told_of(web))
                told = told_of(web)
                told.insert(0, None)
                self.assertEqual(told_of(web), wanted)
                told.clear()
                self.assertEqual(told_of(web), wanted)
                self.assertEqual(web, before)

    def test_lists_of_one_pointing_changed_behind_change_nothing(self):
        for web in (TRIANGLE, TWIN_AND_CURL, EACH_WITH_EACH, LOOSE_POINTS):
            for pointing in pointings_by_product(web):
                before = tuple(pointing)
                for told_of in (ring_in, rising_of, springs_of):
                    wanted = told_of(web, pointing)
                    wanted = wanted if wanted is None else list(wanted)
                    told = told_of(web, pointing)
                    if told is not None:
                        told.append("more")
                        told.reverse()
                    self.assertEqual(told_of(web, pointing), wanted)
                for k in range(len(web[1])):
                    told = ring_through(web, pointing, k)
                    if told is not None:
                        wanted = list(told)
                        told.clear()
                        self.assertEqual(ring_through(web, pointing, k), wanted)
                self.assertEqual(pointing, before)


if __name__ == "__main__":
    unittest.main()
