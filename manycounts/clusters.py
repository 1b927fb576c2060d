"""What hangs together by a pick of ties: clusters, ranks, and the kinds of ties."""

from manycounts.webs import refuse_no_tie_of, whole_pick


def heads_of(web, pick):
    """For each point the least point of its cluster."""
    heads = list(range(web[0]))
    for k in pick:
        tie = web[1][k]
        low = min(heads[tie[0]], heads[tie[1]])
        high = max(heads[tie[0]], heads[tie[1]])
        heads = [low if head == high else head for head in heads]
    return heads


def clusters_of(web, pick):
    """The clusters of a pick, a sorted list of rising lists of points."""
    heads = heads_of(web, pick)
    return [points_under(heads, head) for head in sorted(set(heads))]


def points_under(heads, head):
    """The points of the cluster that has this head, rising."""
    return [point for point, own in enumerate(heads) if own == head]


def rank_of(web, pick):
    """The number of points less the number of clusters of a pick."""
    return web[0] - len(set(heads_of(web, pick)))


def rank_of_web(web):
    """The rank of a web, that of all its ties."""
    return rank_of(web, whole_pick(web))


def is_joined(web):
    """Whether the web is one cluster."""
    return len(clusters_of(web, whole_pick(web))) == 1


def kind_of(web, k):
    """The kind of the tie k: curl, bridge or plain."""
    refuse_no_tie_of(web, k)
    tie = web[1][k]
    if tie[0] == tie[1]:
        return "curl"
    others = tuple([other for other in whole_pick(web) if other != k])
    if rank_of(web, others) < rank_of_web(web):
        return "bridge"
    return "plain"
