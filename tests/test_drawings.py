"""Drawings: promises 2, 3, 29 and 30."""

import itertools
import unittest

from manycounts.clusters import is_joined
from manycounts.drawings import drawing_of, lands_of, other_one, rounds_of, web_of
from manycounts.errors import NoDrawing, NotJoined, NotPlane
from manycounts.polys import exchanged
from manycounts.steps import by_leaving
from manycounts.stretches import by_trees, inner_ties, outer_ties
from manycounts.tables import by_picks
from manycounts.trees import all_trees, is_tree
from manycounts.webs import made_web
from samples import (
    FAR_NUMBERS,
    ODD_THINGS,
    clusters_by_walking,
    grown_drawings,
    is_plane,
    lands_by_walking,
    not_each_once,
    picks_by_mask,
    points_by_walking,
    some_orders,
    trees_by_walking,
    web_by_walking,
)

NOTHING = ()
ONE_TIE = (0, 1)
ONE_CURL = (1, 0)
TRIANGLE_TURNS = (5, 2, 1, 4, 3, 0)
# Two curls at one point that cross one another: no drawing in the plane.
CROSSED = (2, 3, 1, 0)
# Four points, each tied with each.
FOUR_POINTS = (6, 2, 8, 4, 10, 0, 5, 9, 1, 11, 3, 7)


def relabelled(turns, order, flips):
    """The same drawing with other numbers for its ties, and with the ends of some exchanged."""
    becomes = {}
    for k, new in enumerate(order):
        ends = (2 * new + 1, 2 * new) if k in flips else (2 * new, 2 * new + 1)
        becomes[2 * k], becomes[2 * k + 1] = ends
    told = [None] * len(turns)
    for end, behind in enumerate(turns):
        told[becomes[end]] = becomes[behind]
    return tuple(told)


def many_drawings():
    """Grown drawings, and such with other numbers for their ends."""
    drawings = list(grown_drawings())
    for turns in grown_drawings()[::3]:
        many = len(turns) // 2
        for order in some_orders(many)[1::7]:
            drawings.append(relabelled(turns, order, order[:many // 2]))
    return drawings


def all_turns(many):
    return itertools.permutations(range(2 * many))


def one_more_tie_apart(turns):
    """Turns with a tie more that hangs on nothing."""
    return tuple(turns) + (len(turns), len(turns) + 1)


class Samples(unittest.TestCase):
    def test_drawings_of_each_size(self):
        sizes = [len(turns) // 2 for turns in many_drawings()]
        self.assertEqual(sorted(set(sizes)), list(range(9)))
        self.assertTrue(all(sizes.count(many) >= 25 for many in range(3, 9)))
        self.assertTrue(all(is_plane(turns) for turns in many_drawings()))


class Drawn(unittest.TestCase):
    def test_no_tie(self):
        for turns in ((), []):
            drawing = drawing_of(turns)
            self.assertEqual(drawing, ())
            self.assertIs(type(drawing), tuple)
            self.assertEqual(web_of(drawing), (1, ()))
            self.assertEqual(rounds_of(drawing), [[]])
            self.assertEqual(lands_of(drawing), [[]])
            self.assertEqual(other_one(drawing), ())

    def test_one_tie(self):
        self.assertEqual(drawing_of([0, 1]), ONE_TIE)
        self.assertEqual(web_of(ONE_TIE), (2, ((0, 1),)))
        self.assertEqual(rounds_of(ONE_TIE), [[0], [1]])
        self.assertEqual(lands_of(ONE_TIE), [[0, 1]])
        self.assertEqual(other_one(ONE_TIE), ONE_CURL)

    def test_one_curl(self):
        self.assertEqual(drawing_of([1, 0]), ONE_CURL)
        self.assertEqual(web_of(ONE_CURL), (1, ((0, 0),)))
        self.assertEqual(rounds_of(ONE_CURL), [[0, 1]])
        self.assertEqual(lands_of(ONE_CURL), [[0], [1]])
        self.assertEqual(other_one(ONE_CURL), ONE_TIE)

    def test_a_triangle(self):
        self.assertEqual(drawing_of(list(TRIANGLE_TURNS)), TRIANGLE_TURNS)
        self.assertEqual(web_of(TRIANGLE_TURNS), (3, ((0, 1), (1, 2), (0, 2))))
        self.assertEqual(rounds_of(TRIANGLE_TURNS), [[0, 5], [1, 2], [3, 4]])
        self.assertEqual(lands_of(TRIANGLE_TURNS), [[0, 2, 4], [1, 5, 3]])
        self.assertEqual(other_one(TRIANGLE_TURNS), (2, 5, 4, 1, 0, 3))
        self.assertEqual(web_of(other_one(TRIANGLE_TURNS)), (2, ((0, 1),) * 3))

    def test_a_round_is_told_in_its_turn(self):
        # Three curls side by side at one point, so turned that no round rises but from its least end.
        turns = (1, 4, 0, 2, 5, 3)
        self.assertEqual(drawing_of(turns), turns)
        self.assertEqual(rounds_of(turns), [[0, 1, 4, 5, 3, 2]])
        self.assertEqual(lands_of(turns), [[0, 4, 3], [1], [2], [5]])
        self.assertEqual(web_of(turns), (1, ((0, 0),) * 3))
        self.assertEqual(web_of(other_one(turns)), (4, ((0, 1), (0, 2), (0, 3))))

    def test_eight_ties(self):
        curls = tuple(end + 1 for end in range(15)) + (0,)
        self.assertEqual(drawing_of(curls), curls)
        self.assertEqual(web_of(curls), (1, ((0, 0),) * 8))
        self.assertEqual(rounds_of(curls), [list(range(16))])
        self.assertEqual(lands_of(curls), [list(range(0, 16, 2))] + [[end] for end in range(1, 16, 2)])
        self.assertEqual(web_of(other_one(curls)), (9, tuple((0, k) for k in range(1, 9))))

    def test_points_are_numbered_by_their_least_ends(self):
        turns = relabelled(TRIANGLE_TURNS, [2, 0, 1], [1])
        self.assertEqual(web_of(turns), (3, ((0, 1), (0, 2), (1, 2))))
        for turns in many_drawings()[1:]:
            points = rounds_of(turns)
            self.assertEqual([min(ends) for ends in points], sorted(min(ends) for ends in points))

    def test_as_found_by_walking(self):
        for turns in many_drawings():
            with self.subTest(turns=turns):
                drawing = drawing_of(list(turns))
                self.assertIs(type(drawing), tuple)
                self.assertEqual(drawing, turns)
                self.assertEqual(drawing_of(turns), turns)
                self.assertEqual(rounds_of(drawing), points_by_walking(turns))
                self.assertEqual(lands_of(drawing), lands_by_walking(turns))
                self.assertEqual(web_of(drawing), web_by_walking(turns))

    def test_the_form_of_what_is_told(self):
        for turns in many_drawings():
            web = web_of(turns)
            self.assertEqual(made_web(web[0], web[1]), web)
            self.assertTrue(is_joined(web))
            self.assertTrue(all(type(end) is int for end in other_one(turns)))
            self.assertIs(type(other_one(turns)), tuple)
            for rounds in (rounds_of(turns), lands_of(turns)):
                self.assertIs(type(rounds), list)
                self.assertTrue(all(type(ends) is list for ends in rounds))
                self.assertEqual(rounds, sorted(rounds))
                self.assertTrue(all(ends[0] == min(ends) for ends in rounds if ends))
                self.assertEqual(sorted(end for ends in rounds for end in ends), list(range(len(turns))))
            self.assertEqual(len(rounds_of(turns)) - len(turns) // 2 + len(lands_of(turns)), 2)


class OtherOnes(unittest.TestCase):
    def test_its_points_are_the_lands(self):
        for turns in many_drawings():
            other = other_one(turns)
            self.assertEqual(drawing_of(other), other)
            self.assertEqual(rounds_of(other), lands_of(turns))
            self.assertEqual(lands_of(other), rounds_of(turns))

    def test_the_other_ones_other_one(self):
        for turns in many_drawings():
            self.assertEqual(other_one(other_one(turns)), turns)
            self.assertEqual(web_of(other_one(other_one(turns))), web_of(turns))

    def test_its_trees_are_the_rests_of_the_trees(self):
        for turns in many_drawings():
            web, other = web_of(turns), web_of(other_one(turns))
            whole = range(len(web[1]))
            rests = [tuple(k for k in whole if k not in tree) for tree in trees_by_walking(web)]
            self.assertEqual(all_trees(other), sorted(rests))

    def test_a_pick_is_a_tree_just_where_its_rest_is_one(self):
        for turns in many_drawings()[::4]:
            web, other = web_of(turns), web_of(other_one(turns))
            for pick in picks_by_mask(web):
                rest = tuple(k for k in range(len(web[1])) if k not in pick)
                self.assertEqual(is_tree(web, pick), is_tree(other, rest))

    def test_its_inner_ties_are_the_outer_ones_by_the_same_order(self):
        for turns in many_drawings()[::5]:
            web, other = web_of(turns), web_of(other_one(turns))
            for order in [None] + some_orders(len(web[1]))[::3]:
                for tree in all_trees(web):
                    rest = tuple(k for k in range(len(web[1])) if k not in tree)
                    self.assertEqual(inner_ties(web, tree, order), outer_ties(other, rest, order))
                    self.assertEqual(outer_ties(web, tree, order), inner_ties(other, rest, order))

    def test_its_polynomial_has_x_and_y_exchanged(self):
        for turns in many_drawings():
            web, other = web_of(turns), web_of(other_one(turns))
            wanted = exchanged(by_picks(web))
            self.assertEqual(by_picks(other), wanted)
            self.assertEqual(by_leaving(other), wanted)
            self.assertEqual(by_trees(other), wanted)


class Refused(unittest.TestCase):
    def assert_as_by_words(self, turns):
        """Told, or refused in the order of the words; tells which."""
        web, lands = web_by_walking(turns), lands_by_walking(turns)
        if len(clusters_by_walking(web, range(len(web[1])))) != 1:
            with self.assertRaises(NotJoined):
                drawing_of(turns)
            return "apart"
        if web[0] - len(web[1]) + len(lands) != 2:
            with self.assertRaises(NotPlane) as caught:
                drawing_of(turns)
            self.assertEqual(caught.exception.lands, len(lands))
            self.assertIs(type(caught.exception.lands), int)
            return "crossed"
        self.assertEqual(drawing_of(turns), tuple(turns))
        return "drawn"

    def test_all_turns_of_at_most_three_ties_and_some_of_four(self):
        found = [self.assert_as_by_words(turns) for many in range(4) for turns in all_turns(many)]
        self.assertEqual(len(found), 1 + 2 + 24 + 720)
        found += [self.assert_as_by_words(list(turns)) for turns in itertools.islice(all_turns(4), 0, None, 23)]
        self.assertGreater(min(found.count(kind) for kind in ("apart", "crossed", "drawn")), 100)

    def test_not_plane(self):
        with self.assertRaises(NotPlane) as caught:
            drawing_of(CROSSED)
        self.assertEqual(caught.exception.lands, 1)
        self.assertEqual(drawing_of((1, 2, 3, 0)), (1, 2, 3, 0))
        self.assertEqual(drawing_of(FOUR_POINTS), FOUR_POINTS)
        self.assertEqual(web_of(FOUR_POINTS), (4, ((0, 1), (1, 2), (0, 2), (0, 3), (1, 3), (2, 3))))
        # The ends 7, 9 and 11 of its last point turned the other way round.
        crossed = list(FOUR_POINTS)
        crossed[7], crossed[9], crossed[11] = 11, 7, 9
        with self.assertRaises(NotPlane) as caught:
            drawing_of(crossed)
        self.assertEqual(caught.exception.lands, 2)

    def test_not_joined(self):
        for turns in ((0, 1, 2, 3), (1, 0, 3, 2), [0, 1, 3, 2], tuple(range(16)), list(range(16)), tuple(range(6))):
            with self.subTest(turns=turns), self.assertRaises(NotJoined):
                drawing_of(turns)

    def test_not_joined_goes_ahead_of_not_plane(self):
        apart = one_more_tie_apart(CROSSED)
        # Points less ties and lands come to 2 here, though it is neither joined nor plane.
        self.assertEqual(len(points_by_walking(apart)) - 3 + len(lands_by_walking(apart)), 2)
        for turns in (apart, one_more_tie_apart(apart), one_more_tie_apart(FOUR_POINTS), CROSSED + (6, 7, 5, 4)):
            with self.subTest(turns=turns), self.assertRaises(NotJoined):
                drawing_of(turns)

    def test_no_drawing(self):
        drawings = ([], (), [0, 1], (0, 1), [1, 0], (1, 0))
        for many in range(9):
            for wrong in not_each_once(2 * many) + [None]:
                if wrong not in drawings:
                    with self.subTest(wrong=wrong), self.assertRaises(NoDrawing):
                        drawing_of(wrong)

    def test_of_anything(self):
        for odd in ODD_THINGS + FAR_NUMBERS:
            if odd not in ([], (), [0, 1]):
                with self.subTest(odd=odd), self.assertRaises(NoDrawing):
                    drawing_of(odd)

    def test_as_many_turns_as_no_drawing_has(self):
        for many in (1, 3, 5, 7, 15, 17, 18, 19, 20, 100):
            for turns in (list(range(many)), tuple(range(1, many)) + (0,)):
                with self.subTest(turns=turns), self.assertRaises(NoDrawing):
                    drawing_of(turns)

    def test_true_and_false_in_the_place_of_one_and_nought(self):
        for turns in grown_drawings()[1::5]:
            for number, like in ((0, False), (1, True), (0, 0.0), (1, 1.0), (0, None), (1, "1")):
                wrong = [like if end == number else end for end in turns]
                for told in (wrong, tuple(wrong)):
                    with self.subTest(told=told), self.assertRaises(NoDrawing):
                        drawing_of(told)

    def test_an_end_twice_another_not_at_all(self):
        for turns in grown_drawings()[1::5]:
            for at in range(len(turns)):
                for end in {-1, 0, len(turns), turns[at - 1]} - {turns[at]}:
                    with self.assertRaises(NoDrawing):
                        drawing_of(turns[:at] + (end,) + turns[at + 1:])


class Stays(unittest.TestCase):
    def test_what_is_handed_in_stays_and_is_not_kept(self):
        turns = list(TRIANGLE_TURNS)
        drawing = drawing_of(turns)
        self.assertEqual(turns, list(TRIANGLE_TURNS))
        turns.clear()
        self.assertEqual(drawing, TRIANGLE_TURNS)

    def test_a_told_list_changed_behind_changes_nothing(self):
        for turns in grown_drawings()[::7]:
            before = tuple(turns)
            for asked in (rounds_of, lands_of):
                wanted = [list(ends) for ends in asked(turns)]
                told = asked(turns)
                told[0].append(99)
                told.append([7])
                self.assertEqual(asked(turns), wanted)
                told.clear()
                self.assertEqual(asked(turns), wanted)
            self.assertEqual(turns, before)


if __name__ == "__main__":
    unittest.main()
