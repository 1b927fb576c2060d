"""Flows of a web by q: listed for few tuples, and counted for any q by a row."""

from manycounts.clusters import rank_of_web
from manycounts.colours import MOST_TUPLES, refuse_less_than, row_of, with_one_less_q, worth_of_row
from manycounts.errors import TooMany
from manycounts.polys import exchanged, number_to_power, product_of
from manycounts.tables import by_picks


def all_flows(web, q):
    """All tuples of numbers from 1 to q - 1, one for each tie, that are flows by q, sorted."""
    refuse_less_than(q, 1)
    if number_to_power(q - 1, len(web[1])) > MOST_TUPLES:
        raise TooMany(f"there are more than {MOST_TUPLES} tuples of numbers")
    tuples = [()]
    for tie in web[1]:
        longer = []
        for begun in tuples:
            longer.extend([begun + (number,) for number in range(1, q)])
        tuples = longer
    return [numbers for numbers in tuples if is_flow(web, numbers, q)]


def is_flow(web, numbers, q):
    """Whether, by q, what leads from each point comes to the same rest as what leads to it."""
    over = [0] * web[0]
    for tie, number in zip(web[1], numbers):
        over[tie[0]] = over[tie[0]] + number
        over[tie[1]] = over[tie[1]] - number
    return all([number % q == 0 for number in over])


def flow_row(web):
    """The row of the flows: c0, c1 and so on, for c0 + c1 * q + c2 * q ** 2 and so on."""
    sign = number_to_power(-1, len(web[1]) - rank_of_web(web))
    return row_of(product_of(((0, 0, sign),), with_one_less_q(exchanged(by_picks(web)))))


def flow_count(web, q):
    """How many flows by q there are."""
    refuse_less_than(q, 1)
    return worth_of_row(flow_row(web), q)
