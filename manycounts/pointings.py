"""Pointings of a web, tuples with 0 or 1 for each tie: their rings, risings and springs, and lists of them."""

from manycounts.clusters import heads_of
from manycounts.webs import refuse_no_point_of, refuse_no_tie_of, whole_pick


def all_pointings(web):
    """All pointings of the web, sorted."""
    pointings = [()]
    for k in whole_pick(web):
        longer = []
        for pointing in pointings:
            longer.extend([pointing + (0,), pointing + (1,)])
        pointings = longer
    return pointings


def leads_of(web, pointing):
    """For each tie a tuple of the point from which it leads and the one to which it leads."""
    return [tie if way == 0 else (tie[1], tie[0]) for tie, way in zip(web[1], pointing)]


def ring_in(web, pointing):
    """A ring of the pointing, a list of ties, or None where there is none."""
    for k in whole_pick(web):
        ring = ring_through(web, pointing, k)
        if ring is not None:
            return ring
    return None


def ring_through(web, pointing, k):
    """A ring of the pointing that begins with the tie k, or None where there is none."""
    refuse_no_tie_of(web, k)
    leads = leads_of(web, pointing)
    back = ties_between(leads, leads[k][1], leads[k][0])
    return None if back is None else [k] + back


def ties_between(leads, start, goal):
    """The ties that lead from start to goal, one after another, as few as can be, or None."""
    reached = {start: []}
    waiting = [start]
    # A point is reached but once, so none is met twice on what leads to it.
    while waiting:
        point = waiting.pop(0)
        for k, lead in enumerate(leads):
            if lead[0] == point and lead[1] not in reached:
                reached[lead[1]] = reached[point] + [k]
                waiting.append(lead[1])
    return reached.get(goal)


def rising_of(web, pointing):
    """All points, so that each tie leads from one to one behind it, or None where this cannot be."""
    leads = leads_of(web, pointing)
    rising = []
    left = list(range(web[0]))
    while left:
        led_to = [lead[1] for lead in leads if lead[0] in left]
        free = [point for point in left if point not in led_to]
        if not free:
            return None
        rising.extend(free)
        left = [point for point in left if point in led_to]
    return rising


def springs_of(web, pointing):
    """The points to which no tie leads, rising."""
    led_to = [lead[1] for lead in leads_of(web, pointing)]
    return [point for point in range(web[0]) if point not in led_to]


def ringless_ways(web):
    """The pointings without a ring, sorted."""
    return [pointing for pointing in all_pointings(web) if ring_in(web, pointing) is None]


def sprung_ways(web, point=0):
    """The pointings without a ring of which the point and the least of each other cluster alone are springs."""
    refuse_no_point_of(web, point)
    heads = heads_of(web, whole_pick(web))
    wanted = sorted(set([point if head == heads[point] else head for head in heads]))
    return [pointing for pointing in ringless_ways(web) if springs_of(web, pointing) == wanted]


def ringed_ways(web):
    """The pointings in which each tie stands in a ring, sorted."""
    return [pointing for pointing in all_pointings(web) if is_ringed(web, pointing)]


def is_ringed(web, pointing):
    """Whether each tie stands in a ring of the pointing."""
    return all([ring_through(web, pointing, k) is not None for k in whole_pick(web)])
