"""The picks of a web by size and rank, and the polynomial that they make together."""

from manycounts.clusters import rank_of, rank_of_web
from manycounts.polys import gathered, product_of, to_power
from manycounts.webs import all_picks


def size_table(web):
    """A sorted list of tuples (size, rank, many): many picks have so many ties and this rank."""
    many_of = {}
    for pick in all_picks(web):
        key = (len(pick), rank_of(web, pick))
        many_of[key] = many_of.get(key, 0) + 1
    return sorted([(key[0], key[1], many) for key, many in many_of.items()])


def picks_with(web, size, rank):
    """The picks of this size and this rank, sorted."""
    # All picks of one size come in the order of tuples: they are sorted as they are.
    of_this_size = [pick for pick in all_picks(web) if len(pick) == size]
    return [pick for pick in of_this_size if rank_of(web, pick) == rank]


def by_picks(web):
    """The polynomial of a web, by all its picks."""
    whole = rank_of_web(web)
    x_less_one = ((0, 0, -1), (1, 0, 1))
    y_less_one = ((0, 0, -1), (0, 1, 1))
    terms = []
    for size, rank, many in size_table(web):
        of_one_pick = product_of(to_power(x_less_one, whole - rank), to_power(y_less_one, size - rank))
        terms.extend([(i, j, many * times) for i, j, times in of_one_pick])
    return gathered(terms)
