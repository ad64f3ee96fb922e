"""What several modules need to know about the vehicles of a rate that come to green beats."""

from crossinglights.errors import BadBeats
from crossinglights.queues import queue_after

MOST_ROUND = 12


def check_round(green):
    """Raise BadBeats if the round is too long to look at all runs."""
    if green.length > MOST_ROUND:
        raise BadBeats()


def grows(rate, green):
    """Return True if more vehicles can come than leave in the long run."""
    return rate.num * green.length > len(green) * rate.den


def greedy_vehicle(rate, credit):
    """Return 1 if the credit is enough for a vehicle, otherwise 0."""
    return 1 if credit >= rate.den else 0


def greedy_run(rate, green, begin):
    """Return the pairs of the vehicles that come and the queue after each beat, a vehicle whenever one can come.

    The queue must not grow for ever. The run ends when all is as it was before an earlier beat.
    """
    found = []
    known = set()
    beat, credit, queue = (begin, rate.full, 0)
    while (beat, credit, queue) not in known:
        known.add((beat, credit, queue))
        came = greedy_vehicle(rate, credit)
        credit = rate.after(credit, came)
        queue, _ = queue_after(green, beat, queue + came)
        beat = (beat + 1) % green.length
        found.append((came, queue))
    return found


def row_of(run, beats):
    """Return the row of the first beats of a run, a list."""
    return [came for came, _ in run[:beats]]
