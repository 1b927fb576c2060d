"""The texts of webs: promises 2 and 7."""

import unittest

from manycounts.errors import NoText, NoTie, NoWeb, TooMany
from manycounts.texts import read_web, web_text
from samples import EIGHT_CURLS, FAR_NUMBERS, LONE_POINT, LOOSE_POINTS, ODD_THINGS, SAMPLES
from samples import TWIN_AND_CURL, small_webs

NO_TEXTS = (
    "",
    " ",
    ":",
    "3",
    "3 ",
    "3 :",
    " 3:",
    "3: ",
    "3:  ",
    "3:\n",
    "\n3:",
    "3:\t",
    "3::",
    "3: :",
    "3: 0-1:",
    ": 0-1",
    "-1:",
    "-3: 0-1",
    "+3:",
    "x:",
    "3.0:",
    "1_0:",
    "03:",
    "00:",
    "00: 0-1",
    "000:",
    "003:",
    "100:",
    "123: 0-1",
    "3:0-1",
    "3:  0-1",
    "3: 0-1 ",
    "3: 0-1\n",
    "3: 0-1  0-1",
    "3: 0-1\t0-1",
    "3:\t0-1",
    "3: 0-1\n0-1",
    "3: 0-1,0-1",
    "3: 0",
    "3: 0-",
    "3: -1",
    "3: -",
    "3: --",
    "3: 0--1",
    "3: -0-1",
    "3: 0-1-2",
    "3: 0 -1",
    "3: 0- 1",
    "3: 0 - 1",
    "3: 0+1",
    "3: 00-1",
    "3: 0-00",
    "3: 01-2",
    "3: 0-01",
    "3: 0-002",
    "3: 0-100",
    "3: 100-0",
    "3: a-b",
    "3: 0-a",
    "3: +0-1",
    "3: 0x1-1",
    "(3, ())",
    "~",
)


class Told(unittest.TestCase):
    def test_ordinary_webs(self):
        self.assertEqual(web_text(TWIN_AND_CURL), "3: 0-1 0-1 2-2")
        self.assertEqual(web_text((4, ((1, 3), (0, 2)))), "4: 1-3 0-2")

    def test_the_edges(self):
        self.assertEqual(web_text((3, ())), "3:")
        self.assertEqual(web_text(LONE_POINT), "1:")
        self.assertEqual(web_text(LOOSE_POINTS), "9:")
        self.assertEqual(web_text(EIGHT_CURLS), "1: 0-0 0-0 0-0 0-0 0-0 0-0 0-0 0-0")
        self.assertEqual(web_text((9, ((0, 8), (8, 8)))), "9: 0-8 8-8")

    def test_told_and_read(self):
        for web in list(SAMPLES) + list(small_webs()):
            self.assertEqual(read_web(web_text(web)), web)


class Read(unittest.TestCase):
    def test_ordinary_texts(self):
        self.assertEqual(read_web("3: 0-1 0-1 2-2"), TWIN_AND_CURL)
        self.assertEqual(read_web("3:"), (3, ()))

    def test_either_end_first(self):
        self.assertEqual(read_web("4: 3-0 0-3 2-1"), (4, ((0, 3), (0, 3), (1, 2))))

    def test_eight_ties_and_nine(self):
        self.assertEqual(read_web("1:" + " 0-0" * 8), EIGHT_CURLS)
        for many in (9, 10, 100):
            with self.assertRaises(TooMany):
                read_web("1:" + " 0-0" * many)

    def test_what_has_another_form(self):
        for text in NO_TEXTS:
            with self.subTest(text=text), self.assertRaises(NoText):
                read_web(text)

    def test_what_is_no_text(self):
        for odd in ODD_THINGS + FAR_NUMBERS + (3, TWIN_AND_CURL, ["3:"], ("3:",), b"3: 0-1"):
            with self.subTest(odd=odd), self.assertRaises(NoText):
                read_web(odd)

    def test_figures_are_the_ten_signs_alone(self):
        for sign in "\u00b2\u0663\uff13\u2083\u00bd":
            for text in (f"{sign}:", f"3: {sign}-1", f"3: 0-{sign}", f"3: 0-1{sign}"):
                with self.subTest(text=text), self.assertRaises(NoText):
                    read_web(text)

    def test_points_of_one_or_two_figures(self):
        for points in range(1, 10):
            self.assertEqual(read_web(f"{points}:"), (points, ()))
        for points in [0] + list(range(10, 100)):
            with self.subTest(points=points), self.assertRaises(NoWeb):
                read_web(f"{points}: 0-0")

    def test_ends_of_one_or_two_figures(self):
        for end in range(9):
            self.assertEqual(read_web(f"9: {end}-{end}"), (9, ((end, end),)))
        for end in range(9, 100):
            for word in (f"{end}-0", f"0-{end}", f"{end}-{end}"):
                with self.subTest(word=word), self.assertRaises(NoTie) as caught:
                    read_web(f"9: 0-1 8-8 {word} 99-99")
                self.assertEqual(caught.exception.at, 2)

    def test_no_text_goes_ahead_of_all(self):
        for text in ("0: 0-01", "10: x", "99:0-1", "1:" + " 0-0" * 9 + " ", "2: 0-9 0-100", "2: 5-5 0-1 "):
            with self.subTest(text=text), self.assertRaises(NoText):
                read_web(text)

    def test_then_no_web_then_too_many_then_no_tie(self):
        with self.assertRaises(NoWeb):
            read_web("0:" + " 99-99" * 9)
        with self.assertRaises(NoWeb):
            read_web("10: 10-10")
        with self.assertRaises(TooMany):
            read_web("2:" + " 99-99" * 9)
        with self.assertRaises(NoTie):
            read_web("2:" + " 99-99" * 8)


class Alike(unittest.TestCase):
    def test_the_same_is_told_alike_after_a_refusal(self):
        for text in ("3: 1-0 2-2", "1:", "9: 8-0"):
            before = read_web(text)
            for wrong in NO_TEXTS:
                with self.assertRaises(NoText):
                    read_web(wrong)
            self.assertEqual(read_web(text), before)
            self.assertEqual(web_text(before), web_text(read_web(web_text(before))))


if __name__ == "__main__":
    unittest.main()
