"""Ties left out and drawn together: promises 2, 4, 6 and 11."""

import unittest

from manycounts.errors import NoSuch
from manycounts.minors import drawn_together, left_out
from samples import (
    EIGHT_CURLS,
    EIGHT_TWINS,
    FAR_NUMBERS,
    LONE_POINT,
    ODD_THINGS,
    PATH_OF_NINE,
    SAMPLES,
    TRIANGLE,
    TWIN_AND_CURL,
    TWO_PARTS,
    small_webs,
)


def drawn_by_names(web, k):
    """The web drawn together at k, by a list of the points that are left, each with its new number."""
    low, high = web[1][k]
    left = [point for point in range(web[0]) if point != high or low == high]
    others = [tie for at, tie in enumerate(web[1]) if at != k]
    ends = [[left.index(end if end in left else low) for end in tie] for tie in others]
    return (len(left), tuple(tuple(sorted(pair)) for pair in ends))


class MinorCase(unittest.TestCase):
    def assert_web(self, told, wanted):
        self.assertEqual(told, wanted)
        self.assertIs(type(told), tuple)
        self.assertIs(type(told[1]), tuple)
        for tie in told[1]:
            self.assertIs(type(tie), tuple)
            self.assertLessEqual(tie[0], tie[1])


class LeftOut(MinorCase):
    def test_the_other_ties_stay_in_their_order(self):
        web = (4, ((2, 3), (0, 1), (1, 1), (0, 3)))
        self.assert_web(left_out(web, 0), (4, ((0, 1), (1, 1), (0, 3))))
        self.assert_web(left_out(web, 1), (4, ((2, 3), (1, 1), (0, 3))))
        self.assert_web(left_out(web, 2), (4, ((2, 3), (0, 1), (0, 3))))
        self.assert_web(left_out(web, 3), (4, ((2, 3), (0, 1), (1, 1))))

    def test_one_of_the_same_two_ends(self):
        self.assert_web(left_out(TWIN_AND_CURL, 0), (3, ((0, 1), (2, 2))))
        self.assert_web(left_out(TWIN_AND_CURL, 1), (3, ((0, 1), (2, 2))))

    def test_the_last_tie(self):
        self.assert_web(left_out((2, ((0, 1),)), 0), (2, ()))
        self.assert_web(left_out((1, ((0, 0),)), 0), LONE_POINT)

    def test_every_tie(self):
        for web in list(SAMPLES) + list(small_webs()):
            for k in range(len(web[1])):
                wanted = tuple(tie for at, tie in enumerate(web[1]) if at != k)
                self.assert_web(left_out(web, k), (web[0], wanted))


class DrawnTogether(MinorCase):
    def test_others_of_the_same_two_ends_become_curls(self):
        self.assert_web(drawn_together(TWIN_AND_CURL, 0), (2, ((0, 0), (1, 1))))
        self.assert_web(drawn_together(TWIN_AND_CURL, 1), (2, ((0, 0), (1, 1))))
        self.assert_web(drawn_together(EIGHT_TWINS, 4), (1, ((0, 0),) * 7))

    def test_a_curl_is_left_out(self):
        self.assert_web(drawn_together(TWIN_AND_CURL, 2), (3, ((0, 1), (0, 1))))
        self.assert_web(drawn_together(EIGHT_CURLS, 7), (1, ((0, 0),) * 7))
        self.assert_web(drawn_together(TWO_PARTS, 4), (6, ((0, 3), (3, 5), (0, 5), (1, 4))))

    def test_points_above_the_greater_end_go_down(self):
        web = (6, ((1, 3), (4, 5), (2, 4), (0, 5), (5, 5), (2, 2)))
        self.assert_web(drawn_together(web, 0), (5, ((3, 4), (2, 3), (0, 4), (4, 4), (2, 2))))

    def test_points_that_have_no_ties_go_down_too(self):
        self.assert_web(drawn_together((9, ((0, 1),)), 0), (8, ()))
        self.assert_web(drawn_together((9, ((0, 1), (8, 8))), 0), (8, ((7, 7),)))

    def test_the_greatest_point(self):
        web = (4, ((0, 3), (1, 2), (2, 3), (3, 3)))
        self.assert_web(drawn_together(web, 0), (3, ((1, 2), (0, 2), (0, 0))))

    def test_the_lesser_end_is_put_first_again(self):
        web = (4, ((0, 3), (1, 3), (2, 3)))
        self.assert_web(drawn_together(web, 0), (3, ((0, 1), (0, 2))))
        self.assert_web(drawn_together(web, 1), (3, ((0, 1), (1, 2))))
        self.assert_web(drawn_together((4, ((1, 3), (2, 3), (0, 2))), 0), (3, ((1, 2), (0, 2))))

    def test_the_greater_end_becomes_the_lesser_one(self):
        self.assert_web(drawn_together(TRIANGLE, 0), (2, ((0, 1), (0, 1))))
        self.assert_web(drawn_together((3, ((1, 2), (2, 2), (0, 2))), 0), (2, ((1, 1), (0, 1))))

    def test_the_order_of_the_ties(self):
        web = (4, ((2, 3), (0, 0), (0, 1), (1, 2), (0, 3)))
        self.assert_web(drawn_together(web, 2), (3, ((1, 2), (0, 0), (0, 1), (0, 2))))

    def test_a_path_is_drawn_to_one_point(self):
        web = PATH_OF_NINE
        for points in range(8, 0, -1):
            web = drawn_together(web, 0)
            self.assert_web(web, (points, tuple((k, k + 1) for k in range(points - 1))))

    def test_as_made_another_way(self):
        for web in list(SAMPLES) + list(small_webs()):
            for k in range(len(web[1])):
                self.assert_web(drawn_together(web, k), drawn_by_names(web, k))


class Refused(unittest.TestCase):
    def test_what_is_no_number_of_a_tie(self):
        for web in SAMPLES:
            many = len(web[1])
            for k in ODD_THINGS + FAR_NUMBERS + (many, many + 1, -many, (0, 1)):
                for asked in (left_out, drawn_together):
                    with self.subTest(web=web, k=k, asked=asked), self.assertRaises(NoSuch):
                        asked(web, k)

    def test_true_and_false_where_0_and_1_are_numbers(self):
        for k in (True, False, 0.0, 1.0):
            for asked in (left_out, drawn_together):
                with self.assertRaises(NoSuch):
                    asked(TRIANGLE, k)


class Stays(unittest.TestCase):
    def test_the_web_handed_in_stays_and_is_told_alike(self):
        for web in SAMPLES:
            before = (web[0], tuple(web[1]))
            for k in range(len(web[1])):
                told = (left_out(web, k), drawn_together(web, k))
                self.assertEqual(web, before)
                self.assertEqual((left_out(web, k), drawn_together(web, k)), told)


if __name__ == "__main__":
    unittest.main()
