"""The least round that is long enough for the rates of all streams."""

from math import gcd

from crossinglights.beats import MOST_BEATS, is_length
from crossinglights.errors import BadNumber, BadRates
from crossinglights.orders import earliest, tightest


class Enough:
    """The least length and its earliest plan, and a ring for each lesser length that forbids it."""

    def __init__(self, length, plan, rings):
        self.length = length
        self.plan = plan
        self.rings = rings


def needed_green(length, rate):
    """Return the least green of a stream with this rate, or with None."""
    if rate is None:
        return 1
    return (rate.num * length + rate.den - 1) // rate.den


def needed_greens(length, rates):
    """Return the list of the least green of each stream that is enough for its rate."""
    if not is_length(length):
        raise BadNumber(length)
    return [needed_green(length, rate) for rate in rates]


def least_enough(crossing, rates, order):
    """Return the least length for which no ring of the order is too tight with the greens it needs."""
    if len(rates) != len(crossing):
        raise BadRates(min(len(rates), len(crossing)))
    tight = []
    for length in range(1, MOST_BEATS + 1):
        greens = needed_greens(length, rates)
        beats, rounds, ring = tightest(crossing, greens, order)
        if beats <= length * rounds:
            return Enough(length, earliest(crossing, length, greens, order), tight)
        tight.append(ring)
    return Enough(None, None, tight)


def load(rates, streams):
    """Return the sum of the rates of these streams as a pair in lowest terms."""
    num = 0
    den = 1
    for stream in streams:
        rate = rates[stream]
        if rate is not None:
            num = num * rate.den + rate.num * den
            den = den * rate.den
    common = gcd(num, den)
    return (num // common, den // common)
