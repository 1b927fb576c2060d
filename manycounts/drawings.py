"""Drawings in the plane, told by turns: their points, lands and webs, and the other one of each."""

from manycounts.clusters import is_joined
from manycounts.errors import NoDrawing, NotJoined, NotPlane
from manycounts.webs import MOST_TIES, lesser_first
from manycounts.wholes import is_each_once


def drawing_of(turns):
    """The drawing of a list or a tuple of turns."""
    if not any([is_each_once(turns, 2 * many) for many in range(MOST_TIES + 1)]):
        raise NoDrawing(f"the turns have not each end of 0 to {MOST_TIES} ties once")
    drawing = tuple(turns)
    web = web_of(drawing)
    if not is_joined(web):
        raise NotJoined("the web of the drawing is not joined")
    lands = len(lands_of(drawing))
    if web[0] - len(web[1]) + lands != 2:
        raise NotPlane(lands)
    return drawing


def web_of(drawing):
    """The web of a drawing, its points numbered by their least ends."""
    rounds = rounds_of(drawing)
    point_of = {}
    for point, ends in enumerate(rounds):
        for end in ends:
            point_of[end] = point
    many = len(drawing) // 2
    return (len(rounds), tuple([lesser_first(point_of[2 * k], point_of[2 * k + 1]) for k in range(many)]))


def rounds_of(drawing):
    """The rounds of ends that are the points, each from its least end on, sorted."""
    if not drawing:
        return [[]]
    rounds = [round_from(drawing, end) for end in range(len(drawing))]
    return [ends for ends in rounds if ends[0] == min(ends)]


def round_from(drawing, start):
    """The ends round a point, from this one on."""
    ends = [start]
    while drawing[ends[-1]] != start:
        ends.append(drawing[ends[-1]])
    return ends


def lands_of(drawing):
    """The rounds of ends that are the lands, each from its least end on, sorted."""
    return rounds_of(other_one(drawing))


def other_one(drawing):
    """The drawing of which the points are the lands of this one."""
    return tuple([drawing[mate_of(end)] for end in range(len(drawing))])


def mate_of(end):
    """The other end of an end's tie."""
    return end + 1 if end % 2 == 0 else end - 1
