"""The desk: promises 2, 3 and 31."""

import itertools
import unittest

from manycounts.colours import all_colourings, colour_count
from manycounts.desk import Desk
from manycounts.errors import (
    NoName,
    NoNumber,
    NoPoint,
    NoRow,
    NoSuch,
    NotApart,
    NoText,
    NoTie,
    NoWeb,
    TooMany,
    WebError,
)
from manycounts.flows import all_flows, flow_count
from manycounts.gluing import laid_at, laid_beside, renumbered, turned_over
from manycounts.minors import drawn_together, left_out
from manycounts.pointings import ringed_ways, ringless_ways, sprung_ways
from manycounts.polys import worth_at
from manycounts.polytexts import poly_text
from manycounts.scores import all_scores
from manycounts.steps import by_leaving
from manycounts.stretches import by_trees
from manycounts.texts import web_text
from manycounts.webs import all_picks
from manycounts.woods import all_holders, all_woods
from samples import (
    ALL_KINDS,
    EACH_WITH_EACH,
    EIGHT_CURLS,
    EIGHT_TWINS,
    LONE_POINT,
    LOOSE_POINTS,
    ODD_THINGS,
    PATH_OF_NINE,
    PLAIN_AND_MORE,
    SAMPLES,
    SQUARE_WITH_A_BAR,
    TRIANGLE,
    TWIN_AND_CURL,
    TWO_PARTS,
    jumbled_webs,
    picks_by_mask,
    small_webs,
    trees_by_walking,
)

# Behind each first word but web what stands there: a new name, a kept one, a number or a word of COUNTED.
PLACES = {
    "out": "new kept number",
    "draw": "new kept number",
    "beside": "new kept kept",
    "join": "new kept number kept number",
    "turn": "new kept number number",
    "show": "kept",
    "poly": "kept",
    "worth": "kept number number",
    "same": "kept kept",
    "trees": "kept",
    "count": "kept counted",
    "colours": "kept number",
    "flows": "kept number",
}
COUNTED = {
    "picks": all_picks,
    "trees": trees_by_walking,
    "woods": all_woods,
    "holders": all_holders,
    "ringless": ringless_ways,
    "sprung": sprung_ways,
    "ringed": ringed_ways,
    "scores": all_scores,
}
NINES = "9" * 60
NO_NUMBERS = (
    "-", "-0", "00", "01", "-01", "007", "+1", "+0", "--1", "1-", "-1-", "1.0", "1e3", "1_0", "0x1", "x", "one", "a",
    "1\n", "\t1", "1\t", "-\n1", "1,", "9" * 61, "-" + "9" * 61, "1" + "0" * 60, "0" * 60, "0" * 61, "9" * 5000,
)
NO_NAMES = (
    "A", "aA", "Aa", "abcdefghi", "abcdefghijklmnopqrstuvwxyz", "a1", "1", "0", "-1", "a-b", "a_b", "a.", "a:", "3:",
    "a\n", "\ta", "a\tb", "\n", "~", "`", "{", "abcdefgH",
)
# A triangle and a pair of twins with a curl, kept in every test where nothing else is said.
AT_FIRST = ("web a 3: 0-1 0-2 1-2", "web b 2: 0-1 0-1 1-1")


def desk_with(*rows):
    desk = Desk()
    for row in rows:
        if desk.say(row) != "ok":
            raise AssertionError(row)
    return desk


def desk_at_first():
    return desk_with(*AT_FIRST)


def desk_of(webs):
    """A desk that keeps webs by the names that stand for them in a dict."""
    return desk_with(*[f"web {name} {web_text(web)}" for name, web in webs.items()])


def good_words(first):
    """The words of a row that is answered by the desk as it is at first."""
    numbers = iter(("1", "2"))
    words = {"new": lambda: "n", "kept": lambda: "a", "number": lambda: next(numbers), "counted": lambda: "trees"}
    return [first] + [words[place]() for place in PLACES[first].split()]


def places_of(first, kinds):
    """The numbers of the words of a row that are of some kinds."""
    return [at for at, place in enumerate(PLACES[first].split(), start=1) if place in kinds]


def with_word(words, at, word):
    return " ".join(words[:at] + [word] + words[at + 1:])


def tree_words(trees):
    return " ".join("-".join(map(str, tree)) or "none" for tree in trees)


class Told(unittest.TestCase):
    """What each of these tests needs."""

    def assert_told(self, desk, *rows_and_answers):
        for row, answer in rows_and_answers:
            with self.subTest(row=row):
                told = desk.say(row)
                self.assertIs(type(told), str)
                self.assertEqual(told, answer)

    def assert_refused(self, desk, row, error):
        """The row is refused, and with just this error; tells it."""
        with self.subTest(row=row):
            with self.assertRaises(WebError) as caught:
                desk.say(row)
            self.assertIs(type(caught.exception), error)
            return caught.exception

    def assert_as_at_first(self, desk):
        self.assert_told(desk, ("show a", "3: 0-1 0-2 1-2"), ("show b", "2: 0-1 0-1 1-1"))
        self.assert_refused(desk, "show n", NoName)


class EachRow(Told):
    def test_web_and_show(self):
        self.assert_told(
            Desk(),
            ("web a 3: 0-1 0-1 2-2", "ok"), ("show a", "3: 0-1 0-1 2-2"),
            ("web b 3:", "ok"), ("show b", "3:"),
            ("web c 9: 8-0 3-3 2-1", "ok"), ("show c", "9: 0-8 3-3 1-2"),
            ("web web 1: 0-0", "ok"), ("show web", "1: 0-0"), ("show a", "3: 0-1 0-1 2-2"),
        )

    def test_out_and_draw(self):
        self.assert_told(
            desk_at_first(),
            ("out n a 1", "ok"), ("show n", "3: 0-1 1-2"),
            ("draw n a 1", "ok"), ("show n", "2: 0-1 0-1"),
            ("draw m b 0", "ok"), ("show m", "1: 0-0 0-0"),
            ("draw m m 0", "ok"), ("show m", "1: 0-0"), ("out m m 0", "ok"), ("show m", "1:"),
            ("show a", "3: 0-1 0-2 1-2"), ("show b", "2: 0-1 0-1 1-1"),
        )

    def test_beside_and_join(self):
        self.assert_told(
            desk_at_first(),
            ("beside n a b", "ok"), ("show n", "5: 0-1 0-2 1-2 3-4 3-4 4-4"),
            ("beside n b a", "ok"), ("show n", "5: 0-1 0-1 1-1 2-3 2-4 3-4"),
            ("join n a 1 b 0", "ok"), ("show n", "4: 0-1 0-2 1-2 1-3 1-3 3-3"),
            ("join n a 0 b 1", "ok"), ("show n", "4: 0-1 0-2 1-2 0-3 0-3 0-0"),
            ("join n a 2 a 1", "ok"), ("show n", "5: 0-1 0-2 1-2 2-3 3-4 2-4"),
            ("beside a a a", "ok"), ("show a", "6: 0-1 0-2 1-2 3-4 3-5 4-5"),
        )

    def test_turn(self):
        self.assert_told(
            desk_with("web a 4: 0-2 1-2 0-3 0-0 1-3"),
            ("turn n a 0 1", "ok"), ("show n", "4: 0-2 1-2 0-3 0-0 1-3"),
            ("turn n a 0 1 3", "ok"), ("show n", "4: 0-2 1-2 0-3 1-1 1-3"),
            ("turn n a 0 1 0 1", "ok"), ("show n", "4: 1-2 0-2 0-3 0-0 1-3"),
            ("turn n a 1 0 3 1 0", "ok"), ("show n", "4: 1-2 0-2 0-3 1-1 1-3"),
            ("turn n n 0 1 1 3 0", "ok"), ("show n", "4: 0-2 1-2 0-3 0-0 1-3"),
            ("turn n a 0 3 4 3 2 1 0", "ok"), ("show n", "4: 2-3 1-2 0-3 3-3 0-1"),
            ("turn n a 3 2", "ok"), ("same n a", "yes"),
        )

    def test_poly_worth_and_same(self):
        self.assert_told(
            desk_at_first(),
            ("poly a", "1*y + 1*x + 1*x^2"), ("poly b", "1*y^2 + 1*x*y"),
            ("worth a 2 0", "6"), ("worth a 1 1", "3"), ("worth a -1 -1", "-1"), ("worth a 0 -7", "-7"),
            ("worth b 3 0", "0"), ("worth b 10 -2", "-16"),
            ("same a b", "no"), ("same a a", "yes"), ("same b b", "yes"),
            ("web n 4: 1-2 1-3 3-2", "ok"), ("same a n", "yes"), ("same n a", "yes"),
            ("web n 3:", "ok"), ("poly n", "1"), ("worth n -5 0", "1"), ("same a n", "no"),
        )

    def test_trees(self):
        self.assert_told(
            desk_at_first(),
            ("trees a", "0-1 0-2 1-2"), ("trees b", "0 1"),
            ("web n 3:", "ok"), ("trees n", "none"),
            ("web n 1: 0-0 0-0", "ok"), ("trees n", "none"),
            ("web n 9: 0-1 1-2 2-3 3-4 4-5 5-6 6-7 7-8", "ok"), ("trees n", "0-1-2-3-4-5-6-7"),
        )

    def test_count(self):
        answers = (8, 3, 7, 4, 6, 2, 2, 7)
        for word, answer in zip(COUNTED, answers):
            self.assert_told(desk_at_first(), (f"count a {word}", str(answer)))
        for word, answer in zip(COUNTED, (8, 2, 3, 6, 0, 0, 4, 3)):
            self.assert_told(desk_at_first(), (f"count b {word}", str(answer)))

    def test_colours_and_flows(self):
        self.assert_told(
            desk_at_first(),
            ("colours a 0", "0"), ("colours a 2", "0"), ("colours a 3", "6"), ("colours a 1000", "997002000"),
            ("colours b 5", "0"), ("flows a 1", "0"), ("flows a 2", "1"), ("flows a 1000", "999"),
            ("flows b 3", "4"), ("web n 2:", "ok"), ("flows n 1", "1"), ("colours n 0", "0"), ("colours n 7", "49"),
            ("web n 2: 0-1", "ok"), ("flows n 9", "0"), ("colours n 1", "0"),
        )


class AsTheModulesTell(Told):
    def webs(self):
        named = [PLAIN_AND_MORE, SQUARE_WITH_A_BAR, EACH_WITH_EACH, ALL_KINDS]
        return list(SAMPLES) + named + list(small_webs())[::9] + list(jumbled_webs())[::4]

    def test_of_one_web(self):
        for web in self.webs():
            desk = desk_of({"a": web})
            poly = by_leaving(web)
            self.assert_told(desk, ("show a", web_text(web)), ("poly a", poly_text(poly)),
                             ("trees a", tree_words(trees_by_walking(web))), ("same a a", "yes"))
            for x, y in ((0, 0), (2, 1), (-3, 7), (int(NINES), -int(NINES))):
                self.assert_told(desk, (f"worth a {x} {y}", str(worth_at(poly, x, y))))
            for word, listed in COUNTED.items():
                self.assert_told(desk, (f"count a {word}", str(len(listed(web)))))
            for q in (1, 2):
                self.assert_told(desk, (f"colours a {q}", str(len(all_colourings(web, q)))),
                                 (f"flows a {q}", str(len(all_flows(web, q)))))
            self.assert_told(desk, (f"colours a {NINES}", str(colour_count(web, int(NINES)))),
                             (f"flows a {NINES}", str(flow_count(web, int(NINES)))))

    def test_ties_left_out_and_drawn_together(self):
        for web in self.webs():
            desk = desk_of({"a": web})
            for k in range(len(web[1])):
                self.assert_told(desk, (f"out n a {k}", "ok"), ("show n", web_text(left_out(web, k))),
                                 (f"draw n a {k}", "ok"), ("show n", web_text(drawn_together(web, k))))

    def test_webs_put_together(self):
        webs = {"a": TRIANGLE, "b": TWIN_AND_CURL, "c": LONE_POINT, "d": (4, ((0, 3), (1, 1))), "e": (3, ())}
        desk = desk_of(webs)
        for one, other in itertools.product(webs, repeat=2):
            self.assert_told(desk, (f"beside n {one} {other}", "ok"),
                             ("show n", web_text(laid_beside(webs[one], webs[other]))))
            for p, q in itertools.product(range(webs[one][0]), range(webs[other][0])):
                self.assert_told(desk, (f"join n {one} {p} {other} {q}", "ok"),
                                 ("show n", web_text(laid_at(webs[one], p, webs[other], q))))

    def test_parts_turned_over(self):
        for web in (PLAIN_AND_MORE, SQUARE_WITH_A_BAR, TWO_PARTS, TWIN_AND_CURL):
            desk = desk_of({"a": web})
            for pick in picks_by_mask(web):
                for u, v in itertools.permutations(range(web[0]), 2):
                    ties = "".join(f" {k}" for k in pick[::-1])
                    row = f"turn n a {u} {v}{ties}"
                    try:
                        wanted = turned_over(web, pick, u, v)
                    except NotApart as refusal:
                        self.assertEqual(self.assert_refused(desk, row, NotApart).point, refusal.point)
                    else:
                        self.assert_told(desk, (row, "ok"), ("show n", web_text(wanted)))

    def test_same(self):
        webs = {"a": TRIANGLE, "b": renumbered(TRIANGLE, [2, 0, 1]), "c": (4, ((0, 1), (1, 2), (2, 3))),
                "d": (4, ((0, 1), (0, 2), (0, 3))), "e": (3, ((0, 1), (0, 1), (0, 1))), "f": (6, TRIANGLE[1])}
        desk = desk_of(webs)
        for one, other in itertools.product(webs, repeat=2):
            alike = by_trees(webs[one]) == by_trees(webs[other])
            self.assertEqual(alike, one == other or {one, other} <= set("abf") or {one, other} <= set("cd"))
            self.assert_told(desk, (f"same {one} {other}", "yes" if alike else "no"))


class Names(Told):
    def test_of_one_and_of_eight_letters(self):
        desk = Desk()
        names = [chr(ord("a") + k) for k in range(26)] + ["abcdefgh", "zzzzzzzz", "ok", "none", "show", "web", "trees"]
        for many, name in enumerate(names):
            points = many % 9 + 1
            self.assert_told(desk, (f"web {name} {points}:", "ok"))
        for many, name in enumerate(names):
            self.assert_told(desk, (f"show {name}", f"{many % 9 + 1}:"))

    def test_names_that_begin_one_another(self):
        desk = Desk()
        names = ["abcdefgh"[:many] for many in range(1, 9)]
        for name in names[::-1]:
            self.assert_refused(desk, f"show {name}", NoName)
            self.assert_told(desk, (f"web {name} {len(name)}:", "ok"))
        for name in names:
            self.assert_told(desk, (f"show {name}", f"{len(name)}:"))
        self.assert_told(desk, ("beside a a ab", "ok"), ("show a", "3:"),
                         ("show ab", "2:"), ("show abc", "3:"))

    def test_a_name_taken_anew(self):
        self.assert_told(
            desk_at_first(),
            ("web a 1:", "ok"), ("show a", "1:"), ("show b", "2: 0-1 0-1 1-1"),
            ("out a b 0", "ok"), ("show a", "2: 0-1 1-1"), ("show b", "2: 0-1 0-1 1-1"),
            ("draw a a 0", "ok"), ("show a", "1: 0-0"), ("join b a 0 b 0", "ok"), ("show b", "2: 0-0 0-1 0-1 1-1"),
            ("turn b b 0 1 0 1 2 3", "ok"), ("show b", "2: 1-1 0-1 0-1 0-0"), ("show a", "1: 0-0"),
        )

    def test_a_web_stays_as_it_was_when_it_was_taken(self):
        self.assert_told(
            desk_at_first(),
            ("beside n a b", "ok"), ("web a 1:", "ok"), ("web b 1:", "ok"),
            ("show n", "5: 0-1 0-2 1-2 3-4 3-4 4-4"), ("poly a", "1"),
        )


class Numbers(Told):
    def test_of_sixty_figures(self):
        desk = desk_at_first()
        great = int(NINES)
        self.assert_told(desk, (f"worth a {NINES} 0", str(great**2 + great)), (f"worth a 0 {NINES}", NINES),
                         (f"worth a 0 -{NINES}", "-" + NINES), (f"worth b -{NINES} 1", str(1 - great)),
                         (f"colours a {NINES}", str(great * (great - 1) * (great - 2))),
                         (f"flows a {NINES}", str(great - 1)))
        for first in ("out", "draw"):
            for number in (NINES, "-" + NINES):
                self.assert_refused(desk, f"{first} n a {number}", NoSuch)

    def test_below_nought(self):
        desk = desk_at_first()
        self.assert_told(desk, ("worth a -2 -1", "1"), ("worth b -1 -10", "110"))
        for row, error in (("out n a -1", NoSuch), ("draw n a -1", NoSuch), ("join n a -1 b 0", NoPoint),
                           ("join n a 0 b -1", NoPoint), ("turn n a -1 0", NoPoint), ("turn n a 0 -1", NoPoint),
                           ("turn n a 0 1 -1", NoSuch), ("colours a -1", NoNumber), ("flows a -1", NoNumber)):
            self.assert_refused(desk, row, error)
        self.assert_as_at_first(desk)

    def test_each_place_of_a_number_takes_any_number(self):
        for first in PLACES:
            for at in places_of(first, ("number",)):
                for number in ("0", "-1", "10", "-10", NINES, "-" + NINES, "1" + "0" * 59):
                    desk = desk_at_first()
                    try:
                        desk.say(with_word(good_words(first), at, number))
                    except WebError as refusal:
                        self.assertNotIn(type(refusal), (NoRow, NoName))


class NoRows(Told):
    def test_good_rows_are_answered(self):
        for first in PLACES:
            self.assertEqual(len(good_words(first)), len(PLACES[first].split()) + 1)
            desk_at_first().say(" ".join(good_words(first)))

    def test_what_is_no_text(self):
        desk = desk_at_first()
        for row in ODD_THINGS + (b"show a", ["show a"], ("show", "a"), ["show", "a"], 7, -1):
            self.assert_refused(desk, row, NoRow)
        self.assert_as_at_first(desk)

    def test_another_first_word(self):
        desk = desk_at_first()
        others = ("", "x", "a", "Show", "SHOW", "shows", "sho", "show:", "show\n", "\tshow", "show\t", "read", "text",
                  "leave", "count-", "picks", "outs", "renumber", "web:", "new", "kept", "number")
        for first in others:
            for rest in ("", " a", " n a", " n a 1", " n 3:", " a 1 2"):
                self.assert_refused(desk, first + rest, NoRow)
        self.assert_refused(desk, "show\ta", NoRow)
        self.assert_refused(desk, "show\na", NoRow)
        self.assert_refused(desk, "web\tn 3:", NoRow)
        self.assert_as_at_first(desk)

    def test_words_too_many_and_too_few(self):
        desk = desk_at_first()
        for first in PLACES:
            words = good_words(first)
            for many in range(1, len(words)):
                self.assert_refused(desk, " ".join(words[:many]), NoRow)
            for more in ("a", "n", "trees", "x", "-", "1.0"):
                self.assert_refused(desk, " ".join(words + [more]), NoRow)
            if first != "turn":
                self.assert_refused(desk, " ".join(words + ["1"]), NoRow)
                self.assert_refused(desk, " ".join(words + ["1", "2"]), NoRow)
        self.assert_as_at_first(desk)

    def test_blanks_ahead_behind_and_twice(self):
        desk = desk_at_first()
        for first in PLACES:
            words = good_words(first)
            row = " ".join(words)
            self.assert_refused(desk, " " + row, NoRow)
            self.assert_refused(desk, row + " ", NoRow)
            self.assert_refused(desk, row + "  ", NoRow)
            for at in range(1, len(words)):
                self.assert_refused(desk, " ".join(words[:at]) + "  " + " ".join(words[at:]), NoRow)
        self.assert_refused(desk, "turn n a 0 1  0", NoRow)
        self.assert_refused(desk, "turn n a 0 1 0 ", NoRow)
        self.assert_refused(desk, " turn n a 0 1 0", NoRow)
        self.assert_as_at_first(desk)

    def test_a_word_without_signs(self):
        desk = desk_at_first()
        for first in PLACES:
            words = good_words(first)
            for at in range(len(words)):
                self.assert_refused(desk, with_word(words, at, ""), NoRow)
        self.assert_as_at_first(desk)

    def test_no_number(self):
        desk = desk_at_first()
        for first in PLACES:
            for at in places_of(first, ("number",)):
                for word in NO_NUMBERS:
                    self.assert_refused(desk, with_word(good_words(first), at, word), NoRow)
        for word in NO_NUMBERS:
            for row in (f"turn n a 0 1 {word}", f"turn n a 0 1 0 {word}", f"turn n a 0 1 {word} 0 99"):
                self.assert_refused(desk, row, NoRow)
        self.assert_as_at_first(desk)

    def test_no_word_that_is_counted(self):
        desk = desk_at_first()
        for word in ("", "x", "1", "tree", "Trees", "treess", "picks\n", "colours", "flows", "ties", "points", "pick",
                     "woods,", "none", "a"):
            self.assert_refused(desk, f"count a {word}", NoRow)
        self.assert_as_at_first(desk)

    def test_of_web(self):
        desk = desk_at_first()
        for row in ("web", "web ", "web n", "web  ", "web  3:", "web  n 3:", " web n 3:", "web n:", "web 3:",
                    "web n\n3:", "web n\t3:", "Web n 3:", "web3: n"):
            self.assert_refused(desk, row, NoRow)
        self.assert_as_at_first(desk)

    def test_what_stands_in_a_text_is_no_matter_of_it(self):
        desk = desk_at_first()
        for text in ("", " ", "  ", " 3:", "3: ", "3:  0-1", "3: 0-1 ", "x", "3", "3:0-1", "n 3:", "3: 0-1\n", "\t3:",
                     "3: 0-1 x", "-1:", "3: 00-1", "3: 0--1", "003:", "3: 0-1  0-2"):
            self.assert_refused(desk, f"web n {text}", NoText)
        self.assert_as_at_first(desk)


class NoNames(Told):
    def test_no_names_in_each_place(self):
        desk = desk_at_first()
        for first in PLACES:
            for at in places_of(first, ("new", "kept")):
                for name in NO_NAMES:
                    self.assert_refused(desk, with_word(good_words(first), at, name), NoName)
        for name in NO_NAMES:
            self.assert_refused(desk, f"web {name} 3:", NoName)
        self.assert_as_at_first(desk)

    def test_names_by_which_no_web_is_kept(self):
        desk = desk_at_first()
        for first in PLACES:
            for at in places_of(first, ("kept",)):
                for name in ("n", "aa", "ab", "c", "abcdefgh", "none", "web"):
                    self.assert_refused(desk, with_word(good_words(first), at, name), NoName)
        self.assert_as_at_first(desk)

    def test_a_new_name_is_no_web_for_its_own_row(self):
        desk = desk_at_first()
        for row in ("out n n 0", "draw n n 0", "beside n n a", "beside n a n", "join n n 0 a 0", "join n a 0 n 0",
                    "turn n n 0 1"):
            self.assert_refused(desk, row, NoName)
        self.assert_as_at_first(desk)

    def test_a_new_name_needs_no_web(self):
        for first in ("out", "draw", "beside", "join", "turn"):
            for name in ("n", "z", "abcdefgh", "a", "b"):
                self.assert_told(desk_at_first(), (with_word(good_words(first), 1, name), "ok"))

    def test_an_empty_desk_keeps_none(self):
        for first in PLACES:
            self.assert_refused(Desk(), " ".join(good_words(first)), NoName)

    def test_no_row_goes_ahead(self):
        desk = desk_at_first()
        for first in PLACES:
            for at in places_of(first, ("new", "kept")):
                for name in ("A", "abcdefghi", "1") + (("c",) if at in places_of(first, ("kept",)) else ()):
                    words = with_word(good_words(first), at, name).split(" ")
                    self.assert_refused(desk, " ".join(words), NoName)
                    self.assert_refused(desk, " ".join(words) + " x", NoRow)
                    self.assert_refused(desk, " ".join(words[:-1]), NoRow)
                    self.assert_refused(desk, " " + " ".join(words), NoRow)
                    self.assert_refused(desk, " ".join(words) + " ", NoRow)
                    for number in places_of(first, ("number", "counted")):
                        self.assert_refused(desk, with_word(words, number, "-0"), NoRow)
                        self.assert_refused(desk, with_word(words, number, ""), NoRow)
        self.assert_refused(desk, "web A", NoRow)
        self.assert_refused(desk, "turn A c 0 1 0 x", NoRow)
        self.assert_as_at_first(desk)

    def test_it_goes_ahead_of_what_the_rows_point_refuses(self):
        desk = desk_at_first()
        for row in ("web A ", "web A x", "web 1 0:", "web a1 3: 0-9", "out A a 99", "out n c 99", "draw A a -1",
                    "draw n c 0", "join A a 9 b 9", "join n c 9 b 0", "join n a 9 c 0", "turn A a 0 0",
                    "turn n c 0 0", "turn n c 0 1 9 9", "colours c -1", "flows c 0", "colours A -1", "flows 1 -1"):
            self.assert_refused(desk, row, NoName)
        full = desk_with("web a 9:", "web b 1: 0-0 0-0 0-0 0-0 0-0 0-0 0-0 0-0")
        for row in ("beside A a a", "beside n a c", "beside n c b", "beside B b b"):
            self.assert_refused(full, row, NoName)
        self.assert_as_at_first(desk)


class RowsRefusedByTheirPoints(Told):
    def test_of_web(self):
        desk = desk_at_first()
        for text, error in (("", NoText), ("3", NoText), ("0:", NoWeb), ("10:", NoWeb), ("99: 0-98", NoWeb),
                            ("3:" + " 0-1" * 9, TooMany), ("3: 0-1 1-3", NoTie), ("0: 0-x", NoText),
                            ("3:" + " 0-3" * 9, TooMany), ("0:" + " 0-0" * 9, NoWeb)):
            self.assert_refused(desk, f"web n {text}", error)
            self.assert_refused(desk, f"web a {text}", error)
        self.assertEqual(self.assert_refused(desk, "web n 3: 0-1 1-3 4-0", NoTie).at, 1)
        self.assert_as_at_first(desk)

    def test_no_such_tie(self):
        desk = desk_at_first()
        for first, name in itertools.product(("out", "draw"), ("n", "a", "b")):
            for k in ("3", "4", "-1", "-3", "99", NINES, "-" + NINES):
                self.assert_refused(desk, f"{first} {name} a {k}", NoSuch)
        self.assert_told(desk, ("web e 9:", "ok"))
        self.assert_refused(desk, "out n e 0", NoSuch)
        self.assert_as_at_first(desk)

    def test_too_many(self):
        desk = desk_at_first()
        self.assert_told(desk, ("web c 9:", "ok"), ("web d 1:" + " 0-0" * 8, "ok"), ("web e 1:", "ok"))
        for row in ("beside n c e", "beside c e c", "beside n d a", "beside a a d", "join n c 8 b 1", "join n d 0 a 2",
                    "join c c 0 c 0"):
            self.assert_refused(desk, row, TooMany)
        self.assert_told(desk, ("show c", "9:"), ("show d", "1:" + " 0-0" * 8), ("join f c 8 d 0", "ok"),
                         ("show f", "9:" + " 8-8" * 8), ("join f c 8 e 0", "ok"), ("show f", "9:"))
        self.assert_as_at_first(desk)

    def test_no_point(self):
        desk = desk_at_first()
        for row in ("join n a 3 b 0", "join n a 0 b 2", "join n a 3 b 2", f"join n a {NINES} b 0", "join a a 0 a 3",
                    "turn n a 3 0", "turn n a 0 3", "turn n a 0 0", "turn a a 1 1 0 1 2", f"turn n a 0 -{NINES} 1"):
            self.assert_refused(desk, row, NoPoint)
        self.assert_told(desk, ("web c 9:", "ok"))
        self.assert_refused(desk, "join n c 9 c 0", NoPoint)
        self.assert_as_at_first(desk)

    def test_turn(self):
        desk = desk_at_first()
        self.assertEqual(self.assert_refused(desk, "turn n a 0 1 1", NotApart).point, 2)
        self.assertEqual(self.assert_refused(desk, "turn a a 1 2 2 1", NotApart).point, 0)
        for row in ("turn n a 0 1 3", "turn n a 0 1 0 0", "turn n a 0 1 1 2 1", "turn n a 0 1 2 1 0 -1",
                    f"turn n a 0 1 {NINES}", "turn n a 0 1 1 1", "turn a a 0 1 1 3"):
            self.assert_refused(desk, row, NoSuch)
        # No such tie goes ahead of no point and of what is not apart.
        for row in ("turn n a 0 0 3", "turn n a 5 6 1 1", "turn n a 0 0 0 0", "turn n a -1 0 9"):
            self.assert_refused(desk, row, NoSuch)
        for row in ("turn n a 0 0 1", "turn n a 0 3 1", "turn n a 9 9 2 1"):
            self.assert_refused(desk, row, NoPoint)
        self.assert_as_at_first(desk)

    def test_no_number(self):
        desk = desk_at_first()
        for row in ("colours a -1", f"colours a -{NINES}", "flows a 0", "flows a -1", f"flows b -{NINES}"):
            self.assert_refused(desk, row, NoNumber)
        self.assert_told(desk, ("colours a 0", "0"), ("flows a 1", "0"))
        self.assert_as_at_first(desk)


class Stays(Told):
    def test_two_desks_know_nothing_of_one_another(self):
        one, other = Desk(), Desk()
        self.assert_told(one, ("web a 3: 0-1", "ok"), ("web b 2:", "ok"))
        self.assert_refused(other, "show a", NoName)
        self.assert_told(other, ("web a 1: 0-0", "ok"), ("out c a 0", "ok"))
        self.assert_told(one, ("show a", "3: 0-1"), ("show b", "2:"))
        self.assert_refused(one, "show c", NoName)
        self.assert_refused(other, "show b", NoName)
        self.assert_refused(other, "same a b", NoName)
        self.assert_told(other, ("show a", "1: 0-0"), ("show c", "1:"))
        self.assert_refused(Desk(), "show a", NoName)

    def test_the_same_asked_is_told_alike_and_asking_changes_nothing(self):
        desk = desk_at_first()
        rows = ["show a", "poly a", "worth a 2 3", "same a b", "trees a", "colours a 4", "flows a 4"]
        rows += [f"count a {word}" for word in COUNTED]
        first = [desk.say(row) for row in rows]
        self.assertEqual([desk.say(row) for row in rows[::-1]], first[::-1])
        self.assert_as_at_first(desk)

    def test_what_is_refused_leaves_a_web_kept_by_the_new_name(self):
        desk = desk_at_first()
        for row, error in (("web b 3: 0-3", NoTie), ("web b x", NoText), ("out b a 9", NoSuch), ("draw b a 9", NoSuch),
                           ("beside b a c", NoName), ("join b a 9 a 0", NoPoint), ("turn b a 0 0", NoPoint),
                           ("turn b a 0 1 1", NotApart), ("out b a x", NoRow), ("web b", NoRow)):
            self.assert_refused(desk, row, error)
            self.assert_as_at_first(desk)


class Samples(unittest.TestCase):
    def test_webs_that_are_kept_have_texts(self):
        for web in (LONE_POINT, LOOSE_POINTS, PATH_OF_NINE, EIGHT_CURLS, EIGHT_TWINS):
            self.assertEqual(desk_of({"a": web}).say("show a"), web_text(web))


if __name__ == "__main__":
    unittest.main()
