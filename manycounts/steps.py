"""The steps of a web: ties left out or drawn together, one after another, till none is left."""

from manycounts.clusters import kind_of
from manycounts.minors import drawn_together, left_out
from manycounts.polys import ONE, product_of, sum_of
from manycounts.webs import told_order, whole_pick

X = ((1, 0, 1),)
Y = ((0, 1, 1),)


class Step:
    """Any step: each has a polynomial, leaves (tree, inner, outer), and how many these are."""


class End(Step):
    """No ties are left."""

    def poly(self):
        return ONE

    def leaves(self):
        return [((), (), ())]

    def many(self):
        return 1


class Curl(Step):
    """A curl was left out."""

    def __init__(self, tie, rest):
        self.tie = tie
        self.rest = rest

    def poly(self):
        return product_of(Y, self.rest.poly())

    def leaves(self):
        below = self.rest.leaves()
        return sorted([(tree, inner, with_tie(outer, self.tie)) for tree, inner, outer in below])

    def many(self):
        return self.rest.many()


class Bridge(Step):
    """A bridge was drawn together."""

    def __init__(self, tie, rest):
        self.tie = tie
        self.rest = rest

    def poly(self):
        return product_of(X, self.rest.poly())

    def leaves(self):
        below = self.rest.leaves()
        return sorted([(with_tie(tree, self.tie), with_tie(inner, self.tie), outer) for tree, inner, outer in below])

    def many(self):
        return self.rest.many()


class Fork(Step):
    """A plain tie was left out on the one way (without), drawn together on the other (within)."""

    def __init__(self, tie, without, within):
        self.tie = tie
        self.without = without
        self.within = within

    def poly(self):
        return sum_of(self.without.poly(), self.within.poly())

    def leaves(self):
        below = self.within.leaves()
        held = [(with_tie(tree, self.tie), inner, outer) for tree, inner, outer in below]
        return sorted(self.without.leaves() + held)

    def many(self):
        return self.without.many() + self.within.many()


def with_tie(ties, tie):
    """A rising tuple of ties with one more put in."""
    return tuple(sorted(ties + (tie,)))


def steps_of(web, order=None):
    """The steps of a web by an order, from the order's last tie to its first."""
    return steps_down(web, whole_pick(web), told_order(web, order))


def steps_down(web, numbers, order):
    """The steps of what has become of a web: the numbers its ties had at first, and the order of these."""
    if not order:
        return End()
    tie = order[-1]
    ahead = order[:-1]
    k = numbers.index(tie)
    others = numbers[:k] + numbers[k + 1:]
    kind = kind_of(web, k)
    if kind == "curl":
        return Curl(tie, steps_down(left_out(web, k), others, ahead))
    within = steps_down(drawn_together(web, k), others, ahead)
    if kind == "bridge":
        return Bridge(tie, within)
    return Fork(tie, steps_down(left_out(web, k), others, ahead), within)


def by_leaving(web, order=None):
    """The polynomial of a web, by its steps."""
    return steps_of(web, order).poly()
