"""Colourings of a web by q colours: listed for few, and counted for any number of them by a row."""

from manycounts.clusters import rank_of_web
from manycounts.errors import NoNumber, TooMany
from manycounts.polys import gathered, number_to_power, product_of, to_power
from manycounts.tables import by_picks
from manycounts.wholes import is_whole

MOST_TUPLES = 1000


def all_colourings(web, q):
    """All tuples of colours, one for each point, in which the ends of each tie are unlike, sorted."""
    refuse_less_than(q, 0)
    if number_to_power(q, web[0]) > MOST_TUPLES:
        raise TooMany(f"there are more than {MOST_TUPLES} tuples of colours")
    colourings = [()]
    for point in range(web[0]):
        longer = []
        for begun in colourings:
            longer.extend([begun + (colour,) for colour in range(q)])
        colourings = [colours for colours in longer if fits_at(web, colours, point)]
    return colourings


def refuse_less_than(thing, least):
    """Refuses what is no whole number from least on."""
    if not is_whole(thing) or thing < least:
        raise NoNumber(f"this is no whole number from {least} on")


def fits_at(web, colours, point):
    """Whether no tie of which the point is the greater end has both ends of one colour."""
    return all([colours[a] != colours[b] for a, b in web[1] if b == point])


def colour_row(web):
    """The row of the colourings: c0, c1 and so on, for c0 + c1 * q + c2 * q ** 2 and so on."""
    rank = rank_of_web(web)
    ahead = ((web[0] - rank, 0, number_to_power(-1, rank)),)
    return row_of(product_of(ahead, with_one_less_q(by_picks(web))))


def with_one_less_q(poly):
    """A polynomial with 1 - q for x and 0 for y: one in q alone, which stands in the place of x then."""
    one_less_q = ((0, 0, 1), (1, 0, -1))
    terms = []
    for i, j, times in poly:
        if j == 0:
            terms.extend(product_of(((0, 0, times),), to_power(one_less_q, i)))
    return gathered(terms)


def row_of(poly):
    """The row of a polynomial in x alone."""
    if not poly:
        return []
    row = [0] * (poly[-1][0] + 1)
    for i, j, times in poly:
        row[i] = times
    return row


def worth_of_row(row, q):
    """The worth of a row for q."""
    return sum([times * number_to_power(q, k) for k, times in enumerate(row)])


def colour_count(web, q):
    """How many colourings by q colours there are."""
    refuse_less_than(q, 0)
    return worth_of_row(colour_row(web), q)
