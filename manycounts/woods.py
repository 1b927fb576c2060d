"""Woods and holders of a web: picks of which the rank is their size, or the rank of the web."""

from manycounts.clusters import rank_of, rank_of_web
from manycounts.webs import all_picks


def all_woods(web):
    """All picks of which the rank is their size, sorted."""
    return sorted([pick for pick in all_picks(web) if rank_of(web, pick) == len(pick)])


def all_holders(web):
    """All picks of which the rank is that of the web, sorted."""
    whole = rank_of_web(web)
    return sorted([pick for pick in all_picks(web) if rank_of(web, pick) == whole])
