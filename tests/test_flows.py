"""Flows: promises 2, 3, 24 and 25."""

import functools
import itertools
import unittest

from manycounts.clusters import kind_of, rank_of
from manycounts.colours import all_colourings, colour_count, colour_row
from manycounts.errors import NoNumber, TooMany
from manycounts.flows import all_flows, flow_count, flow_row
from manycounts.minors import drawn_together, left_out
from manycounts.polys import worth_at
from manycounts.steps import by_leaving
from manycounts.stretches import by_trees
from manycounts.tables import by_picks
from samples import (
    ALL_KINDS,
    EACH_WITH_EACH,
    EIGHT_CURLS,
    EIGHT_TWINS,
    LONE_POINT,
    LOOSE_POINTS,
    ODD_THINGS,
    PATH_OF_NINE,
    PLAIN_AND_MORE,
    SAMPLES,
    SQUARE_WITH_A_BAR,
    TRIANGLE,
    TWIN_AND_CURL,
    TWO_PARTS,
    WHEEL,
    flows_by_words,
    many_webs,
    picks_by_mask,
    rank_by_walking,
    worth_of,
)

# For each number of ties the greatest q of which the tuples are listed; without ties there is none.
GREATEST = {1: 1001, 2: 32, 3: 11, 4: 6, 5: 4, 6: 4, 7: 3, 8: 3}
BELOW_ONE = (0, -1, -2, -32, -1000, -(10**20), 1 - 10**60)
GREAT = (1002, 1003, 10**4, 10**20, 2**64, 10**59, 10**59 + 7, 10**60 - 1)


def listed_for(web):
    """The numbers that are tried in a list: all, or of many some."""
    if not web[1]:
        return [1, 2, 3, 1002, 10**60 - 1]
    greatest = GREATEST[len(web[1])]
    return sorted({q for q in range(1, min(greatest, 11) + 1)} | {greatest - 1, greatest})


@functools.cache
def signs_and_powers(web):
    many = len(web[1])
    return [((-1) ** (many - len(pick)), len(pick) - rank_by_walking(web, pick)) for pick in picks_by_mask(web)]


def count_by_picks(web, q):
    """How many flows there are, by those that are nought beside each pick."""
    return sum(sign * q**power for sign, power in signs_and_powers(web))


def added(one, other, sign):
    """A row with another one added or taken off, without numbers that are 0 at its end."""
    row = [a + sign * b for a, b in itertools.zip_longest(one, other, fillvalue=0)]
    while row and row[-1] == 0:
        row.pop()
    return row


def kinds_in(web):
    return {kind_of(web, k) for k in range(len(web[1]))}


class Flows(unittest.TestCase):
    def test_known_webs(self):
        self.assertEqual(all_flows(TRIANGLE, 2), [(1, 1, 1)])
        self.assertEqual(all_flows(TRIANGLE, 3), [(1, 2, 1), (2, 1, 2)])
        self.assertEqual(all_flows(TRIANGLE, 4), [(1, 3, 1), (2, 2, 2), (3, 1, 3)])
        self.assertEqual(all_flows((2, ((0, 1), (0, 1))), 3), [(1, 2), (2, 1)])
        self.assertEqual(all_flows(EACH_WITH_EACH, 3), [])
        self.assertEqual(len(all_flows(EACH_WITH_EACH, 4)), 6)
        self.assertEqual(all_flows(EIGHT_TWINS, 2), [(1,) * 8])
        self.assertEqual(all_flows(EIGHT_TWINS, 1), [])

    def test_none_with_a_bridge(self):
        for web in (PATH_OF_NINE, PLAIN_AND_MORE, TWO_PARTS, (2, ((0, 1),)), (9, ((7, 8), (0, 0)))):
            self.assertIn("bridge", kinds_in(web))
            for q in listed_for(web):
                self.assertEqual(all_flows(web, q), [])

    def test_a_curl_may_have_any_number(self):
        self.assertEqual(all_flows((1, ((0, 0),)), 1001), [(number,) for number in range(1, 1001)])
        for many, greatest in GREATEST.items():
            web = (1, ((0, 0),) * many)
            for q in (1, 2, greatest):
                self.assertEqual(all_flows(web, q), list(itertools.product(range(1, q), repeat=many)))
        self.assertEqual(all_flows(TWIN_AND_CURL, 3), [(1, 2, 1), (1, 2, 2), (2, 1, 1), (2, 1, 2)])

    def test_no_ties(self):
        for points in range(1, 10):
            for q in (1, 2, 3, 1001, 1002, 10**20, 10**59 + 7, 10**60 - 1):
                self.assertEqual(all_flows((points, ()), q), [()])

    def test_by_one_there_is_none_where_there_is_a_tie(self):
        for web in many_webs():
            self.assertEqual(all_flows(web, 1), [] if web[1] else [()])

    def test_as_found_among_all_tuples(self):
        for web in many_webs():
            for q in listed_for(web):
                told = all_flows(web, q)
                self.assertEqual(told, flows_by_words(web, q))
                self.assertEqual(told, sorted(told))
                self.assertIs(type(told), list)

    def test_tuples_of_whole_numbers(self):
        for numbers in all_flows(SQUARE_WITH_A_BAR, 4):
            self.assertIs(type(numbers), tuple)
            self.assertEqual([type(number) for number in numbers], [int] * 5)


class Refused(unittest.TestCase):
    def test_what_is_no_number(self):
        for asked in (all_flows, flow_count):
            for web in SAMPLES:
                for q in ODD_THINGS + BELOW_ONE + ("3", [3], (3,), 3.0, 0.5):
                    with self.subTest(asked=asked, web=web, q=q), self.assertRaises(NoNumber):
                        asked(web, q)

    def test_true_and_false_are_no_numbers(self):
        for asked in (all_flows, flow_count):
            for web in (LONE_POINT, TRIANGLE, EIGHT_CURLS):
                for q in (True, False):
                    with self.assertRaises(NoNumber):
                        asked(web, q)

    def test_nought_is_a_number_for_colourings_alone(self):
        for web in SAMPLES:
            self.assertEqual(all_colourings(web, 0), [])
            self.assertEqual(colour_count(web, 0), 0)
            for asked in (all_flows, flow_count):
                with self.assertRaises(NoNumber):
                    asked(web, 0)

    def test_too_many(self):
        for many, greatest in GREATEST.items():
            for web in ((1, ((0, 0),) * many), (2, ((0, 1),) * many), (9, ((3, 7),) * (many - 1) + ((7, 8),))):
                self.assertLessEqual(len(all_flows(web, greatest)), 1000)
                for q in (greatest + 1, greatest + 2) + GREAT:
                    with self.subTest(web=web, q=q), self.assertRaises(TooMany):
                        all_flows(web, q)

    def test_a_count_is_never_too_many(self):
        for web in SAMPLES:
            for q in GREAT:
                self.assertEqual(flow_count(web, q), count_by_picks(web, q))

    def test_no_number_goes_ahead_of_too_many(self):
        for q in (-1001, -(10**59), 1002.0, 1e60, "1002"):
            with self.assertRaises(NoNumber):
                all_flows(EIGHT_CURLS, q)


class Rows(unittest.TestCase):
    def test_known_webs(self):
        self.assertEqual(flow_row(TRIANGLE), [-1, 1])
        self.assertEqual(flow_row(EACH_WITH_EACH), [-6, 11, -6, 1])
        self.assertEqual(flow_row(SQUARE_WITH_A_BAR), [2, -3, 1])
        self.assertEqual(flow_row(EIGHT_CURLS), [1, -8, 28, -56, 70, -56, 28, -8, 1])
        self.assertEqual(flow_row(TWIN_AND_CURL), [1, -2, 1])

    def test_no_ties(self):
        for points in range(1, 10):
            self.assertEqual(flow_row((points, ())), [1])

    def test_without_numbers_with_a_bridge_and_there_alone(self):
        for web in (PATH_OF_NINE, PLAIN_AND_MORE, TWO_PARTS):
            self.assertEqual(flow_row(web), [])
        for web in many_webs():
            self.assertEqual(flow_row(web) == [], "bridge" in kinds_in(web))

    def test_lists_of_whole_numbers_the_last_one_not_0(self):
        for web in many_webs():
            row = flow_row(web)
            self.assertIs(type(row), list)
            self.assertTrue(all(type(number) is int for number in row))
            if row:
                self.assertEqual(row[-1], 1)
                self.assertEqual(len(row), len(web[1]) - rank_by_walking(web, range(len(web[1]))) + 1)

    def test_as_the_polynomial_tells(self):
        for web in many_webs():
            many = len(web[1])
            sign = (-1) ** (many - rank_of(web, tuple(range(many))))
            row = flow_row(web)
            for poly in (by_picks(web), by_leaving(web), by_trees(web)):
                for q in (0, 1, 2, 3, 7, 10**59):
                    self.assertEqual(worth_of(row, q), sign * worth_at(poly, 0, 1 - q))

    def test_a_told_row_changed_behind_changes_nothing(self):
        for web in SAMPLES:
            before, wanted = (web[0], tuple(web[1])), list(flow_row(web))
            count = flow_count(web, 5)
            told = flow_row(web)
            told.append(7)
            told[0] = 9
            self.assertEqual(flow_row(web), wanted)
            told.clear()
            self.assertEqual(flow_row(web), wanted)
            self.assertEqual(flow_count(web, 5), count)
            self.assertEqual(web, before)


class RowsTieByTie(unittest.TestCase):
    def test_at_each_tie_by_the_webs_with_it_left_out_and_drawn_together(self):
        met = set()
        for web in many_webs():
            for k in range(len(web[1])):
                without, within = left_out(web, k), drawn_together(web, k)
                kind = kind_of(web, k)
                met.add(kind)
                with self.subTest(web=web, k=k, kind=kind):
                    if kind == "curl":
                        self.assertEqual(colour_row(web), [])
                        # A curl has any of q - 1 numbers, whatever the others have.
                        self.assertEqual(flow_row(web), added([0] + flow_row(without), flow_row(without), -1))
                    else:
                        self.assertEqual(colour_row(web), added(colour_row(without), colour_row(within), -1))
                    if kind == "plain":
                        self.assertEqual(flow_row(web), added(flow_row(within), flow_row(without), -1))
                    if kind == "bridge":
                        # One end may have any of q - 1 colours beside that of the other one.
                        self.assertEqual(colour_row(web), added([0] + colour_row(within), colour_row(within), -1))
                        self.assertEqual(flow_row(web), [])
        self.assertEqual(met, {"curl", "bridge", "plain"})


class Counts(unittest.TestCase):
    def test_known_webs(self):
        self.assertEqual([flow_count(TRIANGLE, q) for q in range(1, 6)], [0, 1, 2, 3, 4])
        self.assertEqual([flow_count(EACH_WITH_EACH, q) for q in range(1, 6)], [0, 0, 0, 6, 24])
        self.assertEqual(flow_count(LONE_POINT, 10**60 - 1), 1)
        self.assertEqual(flow_count(LOOSE_POINTS, 1), 1)
        self.assertEqual(flow_count(EIGHT_CURLS, 10**59 + 1), 10**472)
        self.assertEqual(flow_count(PATH_OF_NINE, 10**59), 0)
        self.assertEqual(flow_count(ALL_KINDS, 10), 0)
        self.assertEqual(flow_count(WHEEL, 3), len(flows_by_words(WHEEL, 3)))

    def test_as_many_as_are_listed(self):
        for web in many_webs():
            for q in listed_for(web):
                told = flow_count(web, q)
                self.assertIs(type(told), int)
                self.assertEqual(told, len(all_flows(web, q)))

    def test_great_numbers(self):
        for web in many_webs():
            row = flow_row(web)
            for q in (100, 1002, 10**20, 10**59 + 7, 10**60 - 1):
                told = flow_count(web, q)
                self.assertIs(type(told), int)
                self.assertEqual(told, worth_of(row, q))
                self.assertEqual(told, count_by_picks(web, q))


class Stays(unittest.TestCase):
    def test_a_told_list_changed_behind_changes_nothing(self):
        for web in SAMPLES:
            for q in (1, 2, 3):
                before, wanted = (web[0], tuple(web[1])), list(all_flows(web, q))
                told = all_flows(web, q)
                told.insert(0, None)
                self.assertEqual(all_flows(web, q), wanted)
                told.clear()
                self.assertEqual(all_flows(web, q), wanted)
                self.assertEqual(web, before)


if __name__ == "__main__":
    unittest.main()
