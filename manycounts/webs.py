"""Webs, tuples (points, ties), their points, and the numbers, picks and orders of their ties."""

from manycounts.errors import NoOrder, NoPoint, NoSuch, NoTie, NoWeb, TooMany
from manycounts.wholes import is_each_once, is_whole_within

MOST_POINTS = 9
MOST_TIES = 8


def made_web(points, ties):
    """The web of so many points and of a list or a tuple of ties, either end first."""
    if not is_whole_within(points, 1, MOST_POINTS):
        raise NoWeb(f"the points are no whole number from 1 to {MOST_POINTS}")
    if len(ties) > MOST_TIES:
        raise TooMany(f"there are more than {MOST_TIES} ties")
    for at, tie in enumerate(ties):
        if not is_pair_of_points(tie, points):
            raise NoTie(at)
    return (points, tuple([lesser_first(tie[0], tie[1]) for tie in ties]))


def is_pair_of_points(thing, points):
    """Whether thing is a tuple of two points of a web of so many points."""
    if not isinstance(thing, tuple) or len(thing) != 2:
        return False
    return all([is_whole_within(end, 0, points - 1) for end in thing])


def lesser_first(a, b):
    """The tie of two points, the lesser one first."""
    return (a, b) if a <= b else (b, a)


def refuse_no_tie_of(web, k):
    """Refuses what is no number of a tie of the web."""
    if not is_whole_within(k, 0, len(web[1]) - 1):
        raise NoSuch("this is no number of a tie")


def refuse_no_point_of(web, point):
    """Refuses what is no point of the web."""
    if not is_whole_within(point, 0, web[0] - 1):
        raise NoPoint("this is no point")


def told_order(web, order):
    """The order as a tuple of numbers of ties: 0, 1, 2 and so on where it is None."""
    if order is None:
        return whole_pick(web)
    if not is_each_once(order, len(web[1])):
        raise NoOrder("the order is no list or tuple that has each number of a tie once")
    return tuple(order)


def whole_pick(web):
    """The pick of all ties."""
    return tuple(range(len(web[1])))


def all_picks(web):
    """All picks, those of fewer ties first, those of as many in the order of tuples."""
    many = len(web[1])
    picks = []
    of_one_size = [()]
    while of_one_size:
        picks.extend(of_one_size)
        of_one_size = with_one_more(of_one_size, many)
    return picks


def with_one_more(picks, many):
    """All picks of one tie more than these, out of so many ties, in the order of tuples."""
    greater = []
    for pick in picks:
        # A tie above the last one keeps the pick rising, and makes each pick once.
        first = pick[-1] + 1 if pick else 0
        greater.extend([pick + (k,) for k in range(first, many)])
    return greater
