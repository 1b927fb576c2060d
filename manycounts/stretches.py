"""Inner and outer ties of trees by an order, the stretches of trees, and the polynomial by trees."""

from manycounts.clusters import heads_of, rank_of, rank_of_web
from manycounts.polys import gathered
from manycounts.trees import all_trees
from manycounts.webs import told_order, whole_pick


def inner_ties(web, tree, order=None):
    """The inner ties of a tree by an order, a pick."""
    told = told_order(web, order)
    swaps = swaps_of(web, tree)
    return tuple([k for k in tree if is_inner(told, swaps, k)])


def outer_ties(web, tree, order=None):
    """The outer ties of a tree by an order, a pick."""
    told = told_order(web, order)
    swaps = swaps_of(web, tree)
    beside = [k for k in whole_pick(web) if k not in tree]
    return tuple([k for k in beside if is_outer(told, swaps, k)])


def swaps_of(web, tree):
    """All tuples (held, other): a tie of the tree, and one that makes a tree in its place, itself too."""
    swaps = []
    for held in tree:
        # One tie is wanting for a tree, so any that leads from one cluster to another makes one.
        heads = heads_of(web, tuple([k for k in tree if k != held]))
        swaps.extend([(held, other) for other in whole_pick(web) if leads_across(web, heads, other)])
    return swaps


def leads_across(web, heads, k):
    """Whether the tie k leads from one cluster to another, by the heads of all points."""
    tie = web[1][k]
    return heads[tie[0]] != heads[tie[1]]


def is_inner(order, swaps, k):
    """Whether the tie k of the tree is the first of all that make a tree in its place."""
    return is_first(order, k, [other for held, other in swaps if held == k])


def is_outer(order, swaps, k):
    """Whether the tie k beside the tree is the first of itself and all in whose place it makes a tree."""
    return is_first(order, k, [held for held, other in swaps if other == k])


def is_first(order, k, ties):
    """Whether none of these ties stands ahead of k in the order."""
    return not any([tie in ties for tie in order[:order.index(k)]])


def tree_of(web, pick, order=None):
    """The tree in whose stretch the pick lies by an order."""
    ahead = told_order(web, order)
    tree = ()
    # Ties are taken as in the steps by this order: the pick is asked only of those that are plain there,
    # for a bridge there is inner and a curl there is outer, whether the pick has it or not.
    while ahead:
        k = ahead[-1]
        ahead = ahead[:-1]
        if is_needed(web, tree, ahead) or (k in pick and leads_across(web, heads_of(web, tree), k)):
            tree = tuple(sorted(tree + (k,)))
    return tree


def is_needed(web, tree, ahead):
    """Whether a tie is needed beside those held in the tree and those ahead: then it is a bridge."""
    return rank_of(web, tuple(sorted(tree + ahead))) < rank_of_web(web)


def by_trees(web, order=None):
    """The polynomial of a web, by its trees."""
    told = told_order(web, order)
    trees = all_trees(web)
    return gathered([(len(inner_ties(web, tree, told)), len(outer_ties(web, tree, told)), 1) for tree in trees])
