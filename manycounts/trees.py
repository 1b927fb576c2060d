"""Trees of a web: picks of which size and rank are the rank of the web."""

from manycounts.clusters import rank_of, rank_of_web
from manycounts.tables import picks_with


def is_tree(web, pick):
    """Whether the pick is a tree of the web."""
    return len(pick) == rank_of_web(web) and rank_of(web, pick) == rank_of_web(web)


def all_trees(web):
    """All trees of the web, sorted."""
    return picks_with(web, rank_of_web(web), rank_of_web(web))
