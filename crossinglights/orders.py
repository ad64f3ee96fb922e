"""Orders of a crossing, their rings, and the earliest plans that follow them."""

from crossinglights.beats import MOST_BEATS
from crossinglights.errors import BadOrder, BadRing, ShortRound
from crossinglights.listings import arrangements
from crossinglights.places import first_strange
from crossinglights.plans import Plan, check_greens, check_length


def check_order(crossing, order):
    """Raise BadOrder unless the order has all streams, each once."""
    place = first_strange(order, len(crossing))
    if place is None and len(order) < len(crossing):
        place = len(order)
    if place is not None:
        raise BadOrder(place)


def step_need(crossing, greens, order, first, second):
    """Return the pair of the beats and the rounds of a step of an order."""
    rounds = 0 if order.index(first) < order.index(second) else 1
    if first == second:
        return (greens[first], rounds)
    span = crossing.span(first, second)
    if span is None:
        return (rounds, rounds)
    return (greens[first] + span, rounds)


def step_table(crossing, greens, order):
    """Return the lists of the needs of the steps from each stream to each one; raise what all functions here do."""
    check_greens(crossing, MOST_BEATS, greens)
    check_order(crossing, order)
    streams = list(range(len(crossing)))
    return [[step_need(crossing, greens, order, first, second) for second in streams] for first in streams]


def need_of(table, ring):
    """Return the pair of the beats and the rounds of a ring."""
    steps = [table[ring[place - 1]][stream] for place, stream in enumerate(ring)]
    return (sum([step[0] for step in steps]), sum([step[1] for step in steps]))


def stream_rings(count):
    """Return all rings that begin at their least stream, by their numbers of streams, then ascending."""
    # The other beginnings of a ring have the same need and are greater, so they are never asked for.
    found = []
    for many in range(count):
        for first in range(count):
            for tail in arrangements(list(range(first + 1, count)), many):
                found.append((first, *tail))
    return found


def ring_need(crossing, greens, order, ring):
    """Return the pair of the beats and the rounds of a ring of an order."""
    table = step_table(crossing, greens, order)
    place = first_strange(ring, len(crossing))
    if len(ring) == 0:
        place = 0
    if place is not None:
        raise BadRing(place)
    return need_of(table, ring)


def tightest(crossing, greens, order):
    """Return the beats, the rounds and the ring with the most beats for a round."""
    table = step_table(crossing, greens, order)
    best = (0, 1, ())
    for ring in stream_rings(len(crossing)):
        beats, rounds = need_of(table, ring)
        if beats * best[1] > best[0] * rounds:
            best = (beats, rounds, ring)
    return best


def least_length(crossing, greens, order):
    """Return the least length that no ring forbids."""
    beats, rounds, _ = tightest(crossing, greens, order)
    return (beats + rounds - 1) // rounds


def least_begins(length, order, table):
    """Return the least begins that all steps of an order allow, the first stream at 0; no ring may be too tight."""
    begins = [0 for _ in order]
    # A chain of steps that meets no stream twice has fewer steps than there are streams.
    for _ in order:
        for first in order:
            for second in order:
                beats, rounds = table[first][second]
                begins[second] = max(begins[second], begins[first] + beats - length * rounds)
    return begins


def earliest(crossing, length, greens, order):
    """Return the earliest plan that follows the order, its first stream at 0."""
    check_length(length)
    beats, rounds, ring = tightest(crossing, greens, order)
    if beats > length * rounds:
        raise ShortRound(ring)
    begins = least_begins(length, order, step_table(crossing, greens, order))
    return Plan(crossing, length, begins, greens)
