"""The queue to which the vehicles drive that have left another queue."""

from crossinglights.beats import Beats
from crossinglights.errors import BadBeats, BadNumber, Growing
from crossinglights.flows import check_round, greedy_vehicle, grows, row_of
from crossinglights.queues import queue_after


def check_greens(first, second):
    """Raise BadBeats unless both rounds have the same length and are short enough to look at all runs."""
    check_round(first)
    check_round(second)
    if first.length != second.length:
        raise BadBeats()


def check_front(rate, first):
    """Raise Growing if the first queue grows for ever."""
    if grows(rate, first):
        raise Growing()


def run_behind(rate, first, second, shift, begin):
    """Return the pairs of the vehicles that come and the second queue, a vehicle whenever one can come.

    Neither queue may grow for ever. The run ends when all is as it was before an earlier beat.
    """
    found = []
    known = set()
    beat, credit, front, queue = (begin, rate.full, 0, 0)
    while (beat, credit, front, queue) not in known:
        known.add((beat, credit, front, queue))
        came = greedy_vehicle(rate, credit)
        credit = rate.after(credit, came)
        front, left = queue_after(first, beat, front + came)
        # What leaves in this beat comes in the beat that the second queue numbers so.
        queue, _ = queue_after(second, beat - shift, queue + left)
        beat = (beat + 1) % first.length
        found.append((came, queue))
    return found


def greatest_behind(rate, first, second, shift):
    """Return the greatest number in the second queue, a begin and a row; neither queue may grow for ever."""
    # From the last begin with an empty first queue on, comings that are earlier let no fewer vehicles through.
    best = (0, 0, [])
    for begin in range(first.length):
        run = run_behind(rate, first, second, shift, begin)
        for place, (_, queue) in enumerate(run):
            if queue > best[0]:
                best = (queue, begin, row_of(run, place + 1))
    return best


def depth_behind(rate, first, second, shift):
    """Return the greatest number in the second queue, a begin and a row that brings it, or None."""
    check_greens(first, second)
    check_front(rate, first)
    if grows(rate, second):
        return None
    return greatest_behind(rate, first, second, shift)


def good_shifts(rate, first, second, capacity):
    """Return the set of the shifts with which the second queue never has more vehicles than the capacity."""
    check_greens(first, second)
    if capacity < 0:
        raise BadNumber(capacity)
    check_front(rate, first)
    if grows(rate, second):
        return Beats.none(first.length)
    numbers = [greatest_behind(rate, first, second, shift)[0] for shift in range(first.length)]
    return Beats(first.length, [shift for shift, number in enumerate(numbers) if number <= capacity])
