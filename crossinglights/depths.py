"""The greatest number of vehicles that a rate can bring into a queue."""

from crossinglights.flows import check_round, greedy_run, greedy_vehicle, grows, row_of
from crossinglights.queues import queue_after


class Course:
    """What becomes of the queue of a rate before green beats."""

    def __init__(self, rate, green):
        self.rate = rate
        self.green = green

    def told(self):
        """Return the rate and the green beats in words."""
        rate = self.rate
        return f"rate {rate.burst} {rate.num}/{rate.den}, {len(self.green)} of {self.green.length} beats:"


class Depth(Course):
    """A queue that has a greatest number of vehicles, and a row that brings them."""

    def __init__(self, rate, green, begin, row, number):
        super().__init__(rate, green)
        self.number = number
        self.begin = begin
        self.row = row
        self._heights = heights_of(rate, green)

    def height(self, beat, credit):
        """Return the greatest number in the queue before a beat with this credit before it, or None."""
        return self._heights.get((beat % self.green.length, credit))

    def told(self):
        """Return the rate, the green beats and the greatest number in words."""
        return super().told() + f" depth {self.number}"


class Growth(Course):
    """A queue that grows for ever, and a loop of comings that makes it grow."""

    def __init__(self, rate, green, begin, lead, loop):
        super().__init__(rate, green)
        self.begin = begin
        self.lead = lead
        self.loop = loop

    def told(self):
        """Return the rate, the green beats and the length of the loop in words."""
        return super().told() + f" growing by loop of {len(self.loop)} beats"


def heights_of(rate, green):
    """Return the dict of the greatest queue before each beat with each credit that a run can have there.

    The queue must not grow for ever.
    """
    heights = {(beat, rate.full): 0 for beat in range(green.length)}
    pending = list(heights)
    while len(pending) > 0:
        beat, credit = pending.pop()
        for came in range(greedy_vehicle(rate, credit) + 1):
            queue, _ = queue_after(green, beat, heights[(beat, credit)] + came)
            reached = ((beat + 1) % green.length, rate.after(credit, came))
            if reached not in heights or heights[reached] < queue:
                heights[reached] = queue
                pending.append(reached)
    return heights


def growth_of(rate, green):
    """Return the growth by vehicles that come whenever they can."""
    # Each beat of the lead takes at least one of the credit, until the credits repeat after each den beats.
    start = rate.full
    row = rate.greedy(start + rate.den * green.length)
    return Growth(rate, green, 0, row[:start], row[start:])


def depth_of(rate, green):
    """Return the depth of a queue that does not grow for ever."""
    # Vehicles that come earlier leave no fewer in any queue, so a greedy run makes the greatest one.
    best = (0, 0, [])
    for begin in range(green.length):
        run = greedy_run(rate, green, begin)
        for place, (_, queue) in enumerate(run):
            if queue > best[0]:
                best = (queue, begin, row_of(run, place + 1))
    number, begin, row = best
    return Depth(rate, green, begin, row, number)


def depth(rate, green):
    """Return a Depth if the queue has a greatest number over all runs, otherwise a Growth."""
    check_round(green)
    if grows(rate, green):
        return growth_of(rate, green)
    return depth_of(rate, green)
