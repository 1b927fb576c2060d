"""Scores of pointings: how many ties lead from each point."""

from manycounts.pointings import all_pointings, leads_of


def score_of(web, pointing):
    """For each point how many ties lead from it in the pointing."""
    starts = [lead[0] for lead in leads_of(web, pointing)]
    return tuple([starts.count(point) for point in range(web[0])])


def all_scores(web):
    """All unlike scores of the web's pointings, sorted."""
    return sorted(set([score_of(web, pointing) for pointing in all_pointings(web)]))


def pointing_of(web, score):
    """A pointing with this score, or None where there is none."""
    for pointing in all_pointings(web):
        if score_of(web, pointing) == score:
            return pointing
    return None
