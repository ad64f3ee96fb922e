"""The least round of a crossing over all orders."""

from crossinglights.beats import MOST_BEATS
from crossinglights.errors import LongRound, TooMany
from crossinglights.listings import arrangements
from crossinglights.orders import earliest, least_length, tightest

MOST_ORDERED = 5


class LeastRound:
    """The least length of a plan, an order and a plan with it, and the tightest ring of each order."""

    def __init__(self, length, order, plan, rings):
        self.length = length
        self.order = order
        self.plan = plan
        self.rings = rings


def least_round(crossing, greens):
    """Return the least round over all orders that begin with stream 0."""
    count = len(crossing)
    if count > MOST_ORDERED:
        raise TooMany(count)
    orders = [(0, *tail) for tail in arrangements(list(range(1, count)), count - 1)]
    tight = [(order, tightest(crossing, greens, order)[2]) for order in orders]
    length, best = min([(least_length(crossing, greens, order), order) for order in orders])
    if length > MOST_BEATS:
        raise LongRound(length)
    return LeastRound(length, best, earliest(crossing, length, greens, best), tight)
