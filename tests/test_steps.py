"""Orders, steps, their polynomials and leaves: promises 2, 3, 12, 13, 14 and the last sentence of 15."""

import itertools
import unittest

from manycounts.errors import NoOrder
from manycounts.polys import exchanged, product_of, worth_at
from manycounts.steps import Bridge, Curl, End, Fork, Step, by_leaving, steps_of
from samples import (
    EIGHT_CURLS,
    EIGHT_TWINS,
    FAR_NUMBERS,
    LONE_POINT,
    LOOSE_POINTS,
    ODD_THINGS,
    PATH_OF_NINE,
    PLAIN_AND_MORE,
    SAMPLES,
    SQUARE_WITH_A_BAR,
    TRIANGLE,
    TWIN_AND_CURL,
    TWO_PARTS,
    WHEEL,
    picks_by_mask,
    poly_by_dict,
    poly_by_picks,
    reached_from,
    small_webs,
    some_orders,
    trees_by_walking,
)

ONE = ((0, 0, 1),)
SIXTY = 10**60 - 1


def ways_down(step):
    """Each way down as a list of (what was met, tie), a Fork being met as out or in."""
    if isinstance(step, End):
        return [[]]
    if isinstance(step, Fork):
        out = [[("out", step.tie)] + way for way in ways_down(step.without)]
        return out + [[("in", step.tie)] + way for way in ways_down(step.within)]
    met = "curl" if isinstance(step, Curl) else "bridge"
    return [[(met, step.tie)] + way for way in ways_down(step.rest)]


def leaf_of(way):
    """The leaf at the end of a way down."""
    tree = tuple(sorted(tie for met, tie in way if met in ("in", "bridge")))
    inner = tuple(sorted(tie for met, tie in way if met == "bridge"))
    outer = tuple(sorted(tie for met, tie in way if met == "curl"))
    return (tree, inner, outer)


def all_objects(step):
    """All steps from this one down, each as often as it is met."""
    below = [vars(step)[name] for name in ("rest", "without", "within") if name in vars(step)]
    return [step] + [found for other in below for found in all_objects(other)]


def shown(step):
    """A step as a tuple that can be compared."""
    names = ("tie", "rest", "without", "within")
    values = [vars(step)[name] for name in names if name in vars(step)]
    return (type(step).__name__,) + tuple(shown(value) if isinstance(value, Step) else value for value in values)


def chain(kinds, bottom):
    """Curls and Bridges above a bottom, their ties 100, 101 and so on from below."""
    step = bottom
    for number, kind in enumerate(kinds):
        step = kind(100 + number, step)
    return step


def comb_of(many):
    """Forks one below the other, so many, each leading to an End by its one way."""
    step = End()
    for tie in range(many):
        step = Fork(tie, End(), step) if tie % 2 else Fork(tie, step, End())
    return step


def doubled(many, bottom):
    """So many Forks, each with one and the same object on both ways."""
    step = bottom
    for tie in range(many):
        step = Fork(tie, step, step)
    return step


def steps_by_hand():
    """Steps that belong to no web, or to none that is known."""
    yield End()
    yield Curl(0, End())
    yield Bridge(SIXTY, End())
    yield Fork(7, End(), End())
    yield Fork(7, Curl(3, End()), Curl(3, End()))
    yield Fork(5, Bridge(9, Curl(1, End())), Curl(9, Fork(2, End(), Bridge(0, End()))))
    yield Fork(1, Fork(0, End(), End()), End())
    yield Fork(1, End(), Fork(0, End(), End()))
    yield Curl(3, Curl(1, Curl(2, End())))
    yield Bridge(3, Bridge(1, Bridge(2, End())))
    yield Bridge(10, Fork(9, Bridge(2, End()), Curl(SIXTY, End())))
    yield chain([Curl] * 29, End())
    yield chain([Bridge] * 29, End())
    yield chain([Curl, Bridge, Bridge] * 9 + [Curl, Curl], End())
    yield comb_of(29)
    yield chain([Bridge, Curl] * 10, comb_of(9))
    yield chain([Curl, Bridge] * 10, comb_of(9))
    yield chain([Bridge] * 21, doubled(8, End()))
    yield doubled(1, Curl(50, End()))
    yield doubled(8, End())
    yield chain([Bridge] * 11 + [Curl] * 10, doubled(8, End()))
    yield doubled(8, chain([Bridge, Curl, Curl] * 7, End()))
    shared = Bridge(4, Fork(2, End(), Curl(1, End())))
    yield Fork(6, Curl(5, shared), Bridge(5, shared))


class Orders(unittest.TestCase):
    def test_a_list_a_tuple_none_and_left_out(self):
        for web in SAMPLES + (PLAIN_AND_MORE, SQUARE_WITH_A_BAR):
            plain = list(range(len(web[1])))
            wanted = shown(steps_of(web, plain))
            self.assertEqual(shown(steps_of(web)), wanted)
            self.assertEqual(shown(steps_of(web, None)), wanted)
            self.assertEqual(shown(steps_of(web, order=tuple(plain))), wanted)
            self.assertEqual(by_leaving(web), by_leaving(web, plain))
            self.assertEqual(by_leaving(web, None), by_leaving(web, order=tuple(plain)))
            turned = plain[1:] + plain[:1]
            self.assertEqual(shown(steps_of(web, turned)), shown(steps_of(web, tuple(turned))))

    def test_the_order_without_ties(self):
        for web in (LONE_POINT, LOOSE_POINTS):
            for order in (None, [], ()):
                self.assertIsInstance(steps_of(web, order), End)
                self.assertEqual(by_leaving(web, order), ONE)

    def assert_no_order(self, web, order):
        for asked in (steps_of, by_leaving):
            with self.subTest(web=web, order=order), self.assertRaises(NoOrder):
                asked(web, order)

    def test_odd_things(self):
        for web in SAMPLES:
            if web[1]:
                for odd in ODD_THINGS + FAR_NUMBERS + (0, 1, 3):
                    if odd is not None:
                        self.assert_no_order(web, odd)

    def test_odd_things_where_there_are_no_ties(self):
        for odd in ODD_THINGS + FAR_NUMBERS + (0, [0], (0,), [None], range(0), set(), frozenset(), b""):
            if odd is not None and not (isinstance(odd, (list, tuple)) and len(odd) == 0):
                self.assert_no_order(LONE_POINT, odd)

    def test_neither_a_list_nor_a_tuple(self):
        for order in (range(3), {0: 0, 1: 1, 2: 2}, {0, 1, 2}, "012", b"\x00\x01\x02", iter([0, 1, 2]), bytearray(3)):
            self.assert_no_order(TRIANGLE, order)

    def test_odd_things_within(self):
        for odd in ODD_THINGS + FAR_NUMBERS + (3, 4, "2", 2.0, [2]):
            for order in ([odd, 0, 1], [0, odd, 1], [0, 1, odd], (0, 1, odd), [odd, 0, 2], [odd, 1, 2]):
                self.assert_no_order(TRIANGLE, order)

    def test_a_number_twice_one_too_many_or_too_few(self):
        for order in ([0, 1, 1], [0, 0, 0], [0, 0, 2], (2, 2, 1), [], (), [0], [0, 1], [1, 2], [0, 1, 2, 2],
                      [0, 1, 2, 3], [1, 2, 3], [-1, 0, 1], [0, 1, -1], (0, 1, 2, None), [[0, 1, 2]], [0] * 1000):
            self.assert_no_order(TRIANGLE, order)

    def test_every_list_of_numbers(self):
        for order in itertools.product(range(-1, 4), repeat=3):
            if sorted(order) == [0, 1, 2]:
                self.assertEqual(by_leaving(TRIANGLE, order), by_leaving(TRIANGLE))
            else:
                self.assert_no_order(TRIANGLE, order)

    def test_the_order_handed_in_stays_and_is_not_kept(self):
        order = [3, 0, 4, 1, 2]
        told = steps_of(SQUARE_WITH_A_BAR, order)
        self.assertEqual(order, [3, 0, 4, 1, 2])
        before = shown(told)
        order.clear()
        self.assertEqual(shown(told), before)
        wrong = [2, 0, 0]
        with self.assertRaises(NoOrder):
            steps_of(TRIANGLE, wrong)
        self.assertEqual(wrong, [2, 0, 0])


class Walked(unittest.TestCase):
    def assert_steps(self, step, web, ahead, left, drawn):
        """Walks down both ways; the kinds are found by ways along the ties drawn and those left."""
        if not ahead:
            self.assertIs(type(step), End)
            return
        tie, ahead = ahead[-1], ahead[:-1]
        others = [k for k in left if k != tie]
        low, high = web[1][tie]
        self.assertEqual(step.tie, tie)
        if high in reached_from(web, drawn, low):
            self.assertIs(type(step), Curl)
            self.assert_steps(step.rest, web, ahead, others, drawn)
        elif high not in reached_from(web, drawn + others, low):
            self.assertIs(type(step), Bridge)
            self.assert_steps(step.rest, web, ahead, others, drawn + [tie])
        else:
            self.assertIs(type(step), Fork)
            self.assert_steps(step.without, web, ahead, others, drawn)
            self.assert_steps(step.within, web, ahead, others, drawn + [tie])

    def test_known_steps(self):
        end = ("End",)
        self.assertEqual(shown(steps_of(LONE_POINT)), end)
        self.assertEqual(shown(steps_of((1, ((0, 0),)))), ("Curl", 0, end))
        self.assertEqual(shown(steps_of((2, ((0, 1),)))), ("Bridge", 0, end))
        twins = ("Fork", 1, ("Bridge", 0, end), ("Curl", 0, end))
        self.assertEqual(shown(steps_of((2, ((0, 1), (0, 1))))), twins)
        self.assertEqual(shown(steps_of(TWIN_AND_CURL)), ("Curl", 2, twins))
        wanted = ("Fork", 2, ("Bridge", 1, ("Bridge", 0, end)), twins)
        self.assertEqual(shown(steps_of(TRIANGLE)), wanted)

    def test_from_the_orders_last_tie_to_its_first(self):
        step = steps_of(PATH_OF_NINE, [5, 2, 7, 0, 1, 6, 3, 4])
        self.assertEqual([tie for met, tie in ways_down(step)[0]], [4, 3, 6, 1, 0, 7, 2, 5])
        for web in SAMPLES + (SQUARE_WITH_A_BAR,):
            for order in some_orders(len(web[1])):
                for way in ways_down(steps_of(web, order)):
                    self.assertEqual([tie for met, tie in way], order[::-1])

    def test_both_ways_down(self):
        for web in list(SAMPLES) + [PLAIN_AND_MORE, SQUARE_WITH_A_BAR] + list(small_webs()):
            for order in some_orders(len(web[1])):
                self.assert_steps(steps_of(web, order), web, order, list(range(len(web[1]))), [])

    def test_every_order_of_five_ties(self):
        for web in (PLAIN_AND_MORE, SQUARE_WITH_A_BAR, TWO_PARTS):
            for order in itertools.permutations(range(5)):
                self.assert_steps(steps_of(web, order), web, order, list(range(5)), [])

    def test_made_anew_each_time(self):
        for web in SAMPLES:
            first, second = steps_of(web), steps_of(web)
            wanted = shown(second)
            ones, others = all_objects(first), all_objects(second)
            self.assertEqual({id(step) for step in ones} & {id(step) for step in others}, set())
            for step in ones:
                step.tie = "changed"
            self.assertEqual(shown(second), wanted)
            self.assertEqual(shown(steps_of(web)), wanted)

    def test_the_web_handed_in_stays(self):
        for web in SAMPLES:
            before = (web[0], tuple(web[1]))
            steps_of(web)
            by_leaving(web)
            self.assertEqual(web, before)


class Classes(unittest.TestCase):
    def test_each_stands_under_step_and_none_under_another(self):
        classes = (End, Curl, Bridge, Fork)
        for one in classes:
            self.assertTrue(issubclass(one, Step))
            for other in classes:
                self.assertEqual(issubclass(one, other), one is other)

    def test_fields(self):
        end, other = End(), End()
        for made in (Curl(4, end), Bridge(4, end), Curl(tie=4, rest=end), Bridge(tie=4, rest=end)):
            self.assertEqual(made.tie, 4)
            self.assertIs(made.rest, end)
        for made in (Fork(4, end, other), Fork(tie=4, without=end, within=other)):
            self.assertEqual(made.tie, 4)
            self.assertIs(made.without, end)
            self.assertIs(made.within, other)


class StepsThemselves(unittest.TestCase):
    """Polynomials, leaves and how many: of steps of webs, and of steps made by hand."""

    def assert_told(self, step):
        ways = ways_down(step)
        leaves = [leaf_of(way) for way in ways]
        told = step.leaves()
        self.assertEqual(told, sorted(leaves))
        self.assertIs(type(told), list)
        self.assertEqual({type(part) for leaf in told for part in (leaf,) + leaf}, {tuple})
        self.assertEqual(step.many(), len(ways))
        self.assertIs(type(step.many()), int)
        counted = [([met for met, tie in way].count("bridge"), [met for met, tie in way].count("curl")) for way in ways]
        self.assertEqual(step.poly(), poly_by_dict([(i, j, 1) for i, j in counted]))
        self.assertIs(type(step.poly()), tuple)

    def test_known_ones(self):
        self.assertEqual(End().poly(), ONE)
        self.assertEqual(End().leaves(), [((), (), ())])
        self.assertEqual(End().many(), 1)
        self.assertEqual(Curl(4, End()).poly(), ((0, 1, 1),))
        self.assertEqual(Curl(4, End()).leaves(), [((), (), (4,))])
        self.assertEqual(Bridge(4, End()).poly(), ((1, 0, 1),))
        self.assertEqual(Bridge(4, End()).leaves(), [((4,), (4,), ())])
        self.assertEqual(Fork(4, End(), End()).poly(), ((0, 0, 2),))
        self.assertEqual(Fork(4, End(), End()).leaves(), [((), (), ()), ((4,), (), ())])
        self.assertEqual(Fork(4, End(), End()).many(), 2)

    def test_known_webs(self):
        self.assertEqual(steps_of(TRIANGLE).poly(), ((0, 1, 1), (1, 0, 1), (2, 0, 1)))
        wanted = [((0, 1), (0, 1), ()), ((0, 2), (0,), ()), ((1, 2), (), (0,))]
        self.assertEqual(steps_of(TRIANGLE).leaves(), wanted)
        self.assertEqual(steps_of(TRIANGLE).many(), 3)
        self.assertEqual(steps_of(EIGHT_CURLS).leaves(), [((), (), (0, 1, 2, 3, 4, 5, 6, 7))])
        self.assertEqual(steps_of(PATH_OF_NINE).leaves(), [((0, 1, 2, 3, 4, 5, 6, 7),) * 2 + ((),)])
        self.assertEqual(steps_of(WHEEL).many(), 45)

    def test_rising_and_sorted(self):
        step = Fork(1, Bridge(0, Bridge(9, End())), Curl(12, Bridge(3, Bridge(10, Curl(2, End())))))
        self.assertEqual(step.leaves(), [((0, 9), (0, 9), ()), ((1, 3, 10), (3, 10), (2, 12))])
        step = Fork(5, Bridge(9, End()), Bridge(10, End()))
        self.assertEqual(step.leaves(), [((5, 10), (10,), ()), ((9,), (9,), ())])
        step = Bridge(0, Fork(3, Bridge(1, End()), End()))
        self.assertEqual(step.leaves(), [((0, 1), (0, 1), ()), ((0, 3), (0,), ())])

    def test_sorted_again_where_a_tie_put_in_changes_the_order(self):
        step = Bridge(5, Fork(2, End(), End()))
        self.assertEqual(step.leaves(), [((2, 5), (5,), ()), ((5,), (5,), ())])
        step = Curl(7, Fork(5, End(), Fork(2, End(), End())))
        self.assertEqual(step.leaves(), [((), (), (7,)), ((2, 5), (), (7,)), ((5,), (), (7,))])

    def test_of_webs(self):
        for web in list(SAMPLES) + [PLAIN_AND_MORE, SQUARE_WITH_A_BAR] + list(small_webs()):
            for order in some_orders(len(web[1])):
                self.assert_told(steps_of(web, order))

    def test_made_by_hand(self):
        for step in steps_by_hand():
            self.assert_told(step)

    def test_thirty_deep(self):
        self.assertEqual(chain([Curl] * 29, End()).poly(), ((0, 29, 1),))
        self.assertEqual(chain([Bridge] * 29, End()).poly(), ((29, 0, 1),))
        self.assertEqual(comb_of(29).poly(), ((0, 0, 30),))
        self.assertEqual(comb_of(29).many(), 30)
        deep = chain([Bridge] * 11 + [Curl] * 10, doubled(8, End()))
        self.assertEqual(deep.poly(), ((11, 10, 256),))
        self.assertEqual(deep.many(), 256)
        self.assertEqual(len(set(deep.leaves())), 256)

    def test_one_object_on_both_ways(self):
        shared = Curl(1, Bridge(2, End()))
        step = Fork(0, shared, shared)
        self.assertEqual(step.poly(), ((1, 1, 2),))
        self.assertEqual(step.leaves(), [((0, 2), (2,), (1,)), ((2,), (2,), (1,))])
        self.assertEqual(step.many(), 2)
        self.assertEqual(shared.leaves(), [((2,), (2,), (1,))])

    def test_a_told_list_changed_behind_changes_nothing(self):
        for step in list(steps_by_hand()) + [steps_of(web) for web in SAMPLES]:
            for below in all_objects(step)[:3] + [step]:
                wanted, poly, many = list(step.leaves()), step.poly(), step.many()
                told = below.leaves()
                told.append("more")
                told[0] = None
                told.reverse()
                self.assertEqual(step.leaves(), wanted)
                told.clear()
                self.assertEqual((step.leaves(), step.poly(), step.many()), (wanted, poly, many))

    def test_asked_twice_is_told_alike_and_changes_no_field(self):
        for step in steps_by_hand():
            before = shown(step)
            first = (step.leaves(), step.poly(), step.many())
            self.assertEqual((step.leaves(), step.poly(), step.many()), first)
            self.assertEqual(shown(step), before)


class OnePolynomial(unittest.TestCase):
    def test_known_webs(self):
        self.assertEqual(by_leaving(LONE_POINT), ONE)
        self.assertEqual(by_leaving(TRIANGLE), ((0, 1, 1), (1, 0, 1), (2, 0, 1)))
        self.assertEqual(by_leaving(TWIN_AND_CURL), ((0, 2, 1), (1, 1, 1)))
        self.assertEqual(by_leaving(PATH_OF_NINE), ((8, 0, 1),))
        self.assertEqual(by_leaving(EIGHT_CURLS), ((0, 8, 1),))
        self.assertEqual(by_leaving(EIGHT_TWINS), tuple((0, j, 1) for j in range(1, 8)) + ((1, 0, 1),))

    def test_that_of_the_picks_by_every_order(self):
        for web in list(SAMPLES) + [PLAIN_AND_MORE, SQUARE_WITH_A_BAR] + list(small_webs()):
            wanted = poly_by_picks(web)
            for order in some_orders(len(web[1])):
                self.assertEqual(by_leaving(web, order), wanted)
                self.assertEqual(steps_of(web, order).poly(), wanted)

    def test_every_order_of_five_ties(self):
        for web in (PLAIN_AND_MORE, SQUARE_WITH_A_BAR, TWO_PARTS):
            wanted = poly_by_picks(web)
            for order in itertools.permutations(range(5)):
                self.assertEqual(by_leaving(web, list(order)), wanted)

    def test_the_leaves_have_the_trees(self):
        for web in list(SAMPLES) + [PLAIN_AND_MORE, SQUARE_WITH_A_BAR] + list(small_webs()):
            trees = trees_by_walking(web)
            for order in some_orders(len(web[1])):
                step = steps_of(web, order)
                self.assertEqual([leaf[0] for leaf in step.leaves()], trees)
                self.assertEqual(step.many(), len(trees))
                self.assertEqual(worth_at(step.poly(), 1, 1), len(trees))
                self.assertEqual(worth_at(step.poly(), 2, 2), len(picks_by_mask(web)))

    def test_another_numbering_of_points(self):
        for web in (PLAIN_AND_MORE, SQUARE_WITH_A_BAR):
            for places in itertools.permutations(range(4)):
                ties = tuple(tuple(sorted((places[a], places[b]))) for a, b in web[1])
                self.assertEqual(by_leaving((4, ties)), by_leaving(web))

    def test_webs_side_by_side_and_at_one_point_have_the_product(self):
        few = [TRIANGLE, TWIN_AND_CURL, LONE_POINT, (2, ((0, 1),)), (4, ((0, 1), (1, 2), (2, 3), (0, 3)))]
        for one, other in itertools.product(few, repeat=2):
            wanted = product_of(by_leaving(one), by_leaving(other))
            for up in (one[0], one[0] - 1):
                ties = one[1] + tuple((a + up, b + up) for a, b in other[1])
                self.assertEqual(by_leaving((up + other[0], ties)), wanted)

    def test_a_ring_and_its_twins_are_exchanged(self):
        for many in range(2, 9):
            ring = (many, tuple((k, k + 1) for k in range(many - 1)) + ((0, many - 1),))
            self.assertEqual(by_leaving(ring), exchanged(by_leaving((2, ((0, 1),) * many))))


if __name__ == "__main__":
    unittest.main()
