"""Webs of which a tie is left out, or drawn together."""

from manycounts.webs import lesser_first, refuse_no_tie_of


def left_out(web, k):
    """The web without the tie k, the other ties in their order."""
    refuse_no_tie_of(web, k)
    return (web[0], web[1][:k] + web[1][k + 1:])


def drawn_together(web, k):
    """The web without the tie k, of which the greater end has become the lesser one."""
    rest = left_out(web, k)
    low = web[1][k][0]
    high = web[1][k][1]
    if low == high:
        return rest
    ties = [lesser_first(moved(a, low, high), moved(b, low, high)) for a, b in rest[1]]
    return (web[0] - 1, tuple(ties))


def moved(point, low, high):
    """What a point becomes where high becomes low and those above it go down."""
    if point == high:
        return low
    return point - 1 if point > high else point
