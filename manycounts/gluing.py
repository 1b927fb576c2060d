"""Webs with other numbers for their points and ties, laid together, or with a part turned over."""

from manycounts.errors import NoPlaces, NoPoint, NotApart, TooMany
from manycounts.webs import MOST_POINTS, MOST_TIES, lesser_first, refuse_no_point_of, told_order, whole_pick
from manycounts.wholes import is_each_once


def renumbered(web, places):
    """The web with the point places[p] where p was."""
    if not is_each_once(places, web[0]):
        raise NoPlaces("the places are no list or tuple that has each point once")
    return (web[0], ties_at(web[1], places))


def ties_at(ties, places):
    """The ties with the point places[p] where p was, the lesser end first again."""
    return tuple([lesser_first(places[a], places[b]) for a, b in ties])


def reordered(web, order=None):
    """The web with the tie order[0] as its tie 0, and so on."""
    return (web[0], tuple([web[1][k] for k in told_order(web, order)]))


def laid_beside(one, other):
    """Both webs as one: the other's points go up by the first one's number of points."""
    return laid_with(one, other, [one[0] + point for point in range(other[0])])


def laid_at(one, p, other, q):
    """Both webs as one, the point q of the other one become the point p of the first."""
    refuse_no_point_of(one, p)
    refuse_no_point_of(other, q)
    ahead = [one[0] + point for point in range(q)]
    behind = [one[0] + point - 1 for point in range(q + 1, other[0])]
    return laid_with(one, other, ahead + [p] + behind)


def laid_with(one, other, places):
    """Both webs as one, the other one's points at these places."""
    points = max(one[0], max(places) + 1)
    ties = one[1] + ties_at(other[1], places)
    if points > MOST_POINTS or len(ties) > MOST_TIES:
        raise TooMany(f"there would be more than {MOST_POINTS} points or {MOST_TIES} ties")
    return (points, ties)


def turned_over(web, pick, u, v):
    """The web with u and v exchanged in the ties of the pick."""
    refuse_no_point_of(web, u)
    refuse_no_point_of(web, v)
    if u == v:
        raise NoPoint("a part is turned over at two unlike points")
    refuse_not_apart(web, pick, u, v)
    places = list(range(web[0]))
    places[u] = v
    places[v] = u
    turned = ties_at(web[1], places)
    return (web[0], tuple([turned[k] if k in pick else web[1][k] for k in whole_pick(web)]))


def refuse_not_apart(web, pick, u, v):
    """Refuses a part that hangs on the rest at another point than u and v."""
    rest = [k for k in whole_pick(web) if k not in pick]
    for point in range(web[0]):
        if point not in (u, v) and is_end_in(web, pick, point) and is_end_in(web, rest, point):
            raise NotApart(point)


def is_end_in(web, ties, point):
    """Whether the point is an end of one of these ties."""
    return any([point in web[1][k] for k in ties])
