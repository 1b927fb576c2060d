"""The texts of polynomials: promises 2 and 10."""

import re
import unittest

from manycounts.errors import NoText
from manycounts.polytexts import poly_text, read_poly
from samples import FAR_NUMBERS, ODD_THINGS, grid_poly

SIXTY = 10**60 - 1
KNOWN = (
    ((), "0"),
    (((0, 0, 3), (0, 1, -1), (2, 1, 2)), "3 + -1*y + 2*x^2*y"),
    (((0, 0, 1),), "1"),
    (((0, 0, -1),), "-1"),
    (((0, 0, 10),), "10"),
    (((0, 1, 1),), "1*y"),
    (((1, 0, 1),), "1*x"),
    (((1, 1, -1),), "-1*x*y"),
    (((0, 2, 5),), "5*y^2"),
    (((2, 0, 5),), "5*x^2"),
    (((2, 2, -20),), "-20*x^2*y^2"),
    (((1, 9, 1), (1, 10, 1), (9, 1, 1), (10, 1, 1)), "1*x*y^9 + 1*x*y^10 + 1*x^9*y + 1*x^10*y"),
    (((60, 60, 7),), "7*x^60*y^60"),
    (((0, 60, SIXTY), (60, 0, -SIXTY)), "9" * 60 + "*y^60 + -" + "9" * 60 + "*x^60"),
)
NUMBER = "[1-9][0-9]{0,59}"
POWER = r"(?:\^([2-9]|[1-5][0-9]|60))?"
TERM = re.compile(rf"(-?{NUMBER})(\*x{POWER})?(\*y{POWER})?")
NO_TEXTS = (
    "",
    " ",
    "\n",
    "00",
    "-0",
    "+0",
    "0 ",
    " 0",
    "0\n",
    "1\n",
    "\n1",
    "1\t",
    " 1",
    "1 ",
    "+1",
    "--1",
    "- 1",
    "-",
    "01",
    "-01",
    "1.0",
    "1_0",
    "1e3",
    "0x1",
    "x",
    "y",
    "-x",
    "1x",
    "1y",
    "x*1",
    "*x",
    "1*",
    "1*x*",
    "1**x",
    "1* x",
    "1 *x",
    "1*X",
    "1*z",
    "1*2",
    "1*x*x",
    "1*y*y",
    "1*y*x",
    "1*x*y*x",
    "1*x*y*y",
    "1*xy",
    "1*x2",
    "1*x^",
    "1*x^0",
    "1*x^1",
    "1*y^1",
    "1*x^0*y",
    "1*x^-2",
    "1*x^+2",
    "1*x^02",
    "1*x^2^2",
    "1*x**2",
    "1*x^x",
    "1*x^ 2",
    "1*x^2.0",
    "0*x",
    "0*y",
    "0*x^2*y",
    "-0*x",
    "0 + 1*x",
    "1 + 0",
    "1 + 0*x",
    "0 + 0",
    "1 +",
    "1 + ",
    " + 1",
    "+ 1",
    " + ",
    "1 + + 1*y",
    "1 +  + 1*y",
    "1 +  1*y",
    "1  + 1*y",
    "1+1*y",
    "1 +1*y",
    "1+ 1*y",
    "1 - 1*y",
    "1 + 1*y + ",
    "1\n+ 1*y",
    "1 +\t1*y",
    "3 + - 1*y",
    "3: 0-1",
    "()",
    "((0, 0, 1),)",
    "~",
)


def read_by_pattern(text):
    """The polynomial of a text, or None, found another way than the program finds it."""
    if text == "0":
        return ()
    terms = []
    for word in text.split(" + "):
        found = TERM.fullmatch(word)
        if not found:
            return None
        times, x, up, y, across = found.groups()
        terms.append((int(up or 1) if x else 0, int(across or 1) if y else 0, int(times)))
    powers = [term[:2] for term in terms]
    good = powers == sorted(set(powers)) and len(terms) <= 100
    return tuple(terms) if good else None


def one_sign_away(text):
    """All texts that are made of text by a sign left out, put in, or put in another one's place."""
    signs = "0123456789xyz*^+- \n\t~.X"
    for at in range(len(text) + 1):
        for sign in signs:
            yield text[:at] + sign + text[at:]
            yield text[:at] + sign + text[at + 1:]
        yield text[:at] + text[at + 1:]


class Told(unittest.TestCase):
    def test_known_polynomials(self):
        for poly, text in KNOWN:
            self.assertEqual(poly_text(poly), text)

    def test_every_power(self):
        for power in range(2, 61):
            self.assertEqual(poly_text(((0, power, 4),)), f"4*y^{power}")
            self.assertEqual(poly_text(((power, 0, -4),)), f"-4*x^{power}")
            self.assertEqual(poly_text(((power, 1, -4),)), f"-4*x^{power}*y")
            self.assertEqual(poly_text(((1, power, 4),)), f"4*x*y^{power}")

    def test_a_hundred_terms(self):
        text = poly_text(grid_poly(10, 10))
        self.assertEqual(text.count(" + "), 99)
        self.assertTrue(text.startswith("1 + -2*y + 3*y^2 + -4*y^3"))
        self.assertTrue(text.endswith(" + 99*x^9*y^8 + -100*x^9*y^9"))


class Read(unittest.TestCase):
    def test_known_texts(self):
        for poly, text in KNOWN:
            self.assertEqual(read_poly(text), poly)

    def test_told_and_read(self):
        grids = [grid_poly(width, height, start) for width in (1, 2, 7, 10) for height in (1, 3, 10) for start in (1, 8)]
        edges = [((i, j, times),) for i in (0, 1, 2, 59, 60) for j in (0, 1, 2, 59, 60) for times in (1, -1, 90, -SIXTY)]
        for poly in grids + edges:
            self.assertEqual(read_poly(poly_text(poly)), poly)

    def test_tuples_of_whole_numbers(self):
        told = read_poly("3 + -1*y + 2*x^2*y")
        self.assertIs(type(told), tuple)
        for term in told:
            self.assertIs(type(term), tuple)
            self.assertEqual([type(number) for number in term], [int, int, int])

    def test_what_has_another_form(self):
        for text in NO_TEXTS:
            with self.subTest(text=text), self.assertRaises(NoText):
                read_poly(text)

    def test_one_sign_away(self):
        for text in ("0", "1", "-1*x*y", "3 + -1*y + 2*x^2*y", "12*y^10 + 3*x^6*y^59 + -10*x^60"):
            for other in one_sign_away(text):
                wanted = read_by_pattern(other)
                with self.subTest(other=other):
                    if wanted is None:
                        with self.assertRaises(NoText):
                            read_poly(other)
                    else:
                        self.assertEqual(read_poly(other), wanted)
                        self.assertEqual(poly_text(wanted), other)

    def test_terms_out_of_order(self):
        for text in ("1*y + 1", "1*x + 1*y", "1*x^2 + 1*x", "1*x*y^2 + 1*x*y", "1*x^10 + 1*x^9", "1 + 1*x + 1*y",
                     "1*x + 1 + 1*x^2", "1*x^2*y + 3"):
            with self.subTest(text=text), self.assertRaises(NoText):
                read_poly(text)

    def test_a_term_twice(self):
        for text in ("1 + 1", "1 + -1", "2*x + 3*x", "1 + 2*y^3 + 2*y^3", "1 + 1*x^2*y + 2*x^2*y + 1*x^3"):
            with self.subTest(text=text), self.assertRaises(NoText):
                read_poly(text)

    def test_a_hundred_terms_and_more(self):
        poly = grid_poly(10, 10)
        text = poly_text(poly)
        self.assertEqual(read_poly(text), poly)
        for more in (" + 1*x^10", " + 1*x^10 + 1*x^11", "".join(f" + 1*x^{i}" for i in range(10, 61))):
            with self.assertRaises(NoText):
                read_poly(text + more)

    def test_powers_up_to_sixty(self):
        for power in range(2, 61):
            self.assertEqual(read_poly(f"1*x^{power}"), ((power, 0, 1),))
            self.assertEqual(read_poly(f"1*y^{power}"), ((0, power, 1),))
        for power in (61, 62, 70, 99, 100, 600, 10**20, 10**61):
            for text in (f"1*x^{power}", f"1*y^{power}", f"1*x^{power}*y^2", f"1*x*y^{power}", f"1 + 1*x^2*y^{power}"):
                with self.subTest(text=text), self.assertRaises(NoText):
                    read_poly(text)

    def test_times_up_to_sixty_figures(self):
        for times in (10**59, SIXTY, -(10**59), -SIXTY):
            self.assertEqual(read_poly(f"{times}"), ((0, 0, times),))
            self.assertEqual(read_poly(f"1 + {times}*x*y"), ((0, 0, 1), (1, 1, times)))
        for times in (10**60, -(10**60), 10**61 - 1, 10**200):
            for text in (f"{times}", f"{times}*x", f"1 + {times}*y^2"):
                with self.subTest(text=text), self.assertRaises(NoText):
                    read_poly(text)

    def test_more_figures_than_python_reads(self):
        for text in ("1" * 5000, "-" + "1" * 5000, "1*x^" + "2" * 5000, "0" * 5000):
            with self.assertRaises(NoText):
                read_poly(text)

    def test_figures_are_the_ten_signs_alone(self):
        for sign in "\u00b2\u0663\uff13\u2083\u00bd":
            for text in (sign, f"1{sign}", f"-{sign}", f"1*x^{sign}", f"1*x^1{sign}"):
                with self.subTest(text=text), self.assertRaises(NoText):
                    read_poly(text)

    def test_what_is_no_text(self):
        things = (0, 1, ((0, 0, 1),), ["0"], ("1",), b"0", b"1*x", {"0": 1}, bytearray(b"1"))
        for odd in tuple(odd for odd in ODD_THINGS if odd != "1" and odd != "0") + FAR_NUMBERS + things:
            with self.subTest(odd=odd), self.assertRaises(NoText):
                read_poly(odd)


class Alike(unittest.TestCase):
    def test_the_same_is_told_alike_after_a_refusal(self):
        for poly, text in KNOWN:
            with self.assertRaises(NoText):
                read_poly(text + " ")
            self.assertEqual(read_poly(text), poly)
            self.assertEqual(poly_text(poly), text)


if __name__ == "__main__":
    unittest.main()
