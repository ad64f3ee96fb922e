"""The beats that are lost between stages, and the least closed walk of a crowd."""

from crossinglights.errors import BadNumber, NotCrowd, NotStage
from crossinglights.listings import arrangements
from crossinglights.stages import is_crowd, is_stage

MOST_STAGES = 6


def check_stage(crossing, streams):
    """Raise NotStage unless these streams are a stage."""
    if not is_stage(crossing, streams):
        raise NotStage()


def check_count(stages):
    """Raise BadNumber unless there are one to six stages."""
    if not 1 <= len(stages) <= MOST_STAGES:
        raise BadNumber(len(stages))


def change(crossing, before, after):
    """Return the greatest span from a stream that ends to one that begins, or 0."""
    check_stage(crossing, before)
    check_stage(crossing, after)
    ending = [stream for stream in before if stream not in after]
    coming = [stream for stream in after if stream not in before]
    spans = [crossing.span(first, second) for first in ending for second in coming]
    return max([span for span in spans if span is not None], default=0)


def lost(crossing, stages):
    """Return the sum of the changes from each stage to the next one and from the last to the first."""
    check_count(stages)
    return sum([change(crossing, stages[place - 1], stage) for place, stage in enumerate(stages)])


def least_lost(crossing, stages):
    """Return the least number that an order of the stages loses, the first one first, and its places."""
    check_count(stages)
    found = []
    for tail in arrangements(list(range(1, len(stages))), len(stages) - 1):
        places = [0, *tail]
        found.append((lost(crossing, [stages[place] for place in places]), places))
    return min(found)


def distances(crossing, streams):
    """Return the dict of the least beats from one stream to another, perhaps over others of these streams."""
    least = {(first, second): crossing.span(first, second) for first in streams for second in streams}
    for stream in streams:
        least[(stream, stream)] = 0
    for middle in streams:
        for first in streams:
            for second in streams:
                around = least[(first, middle)] + least[(middle, second)]
                least[(first, second)] = min(least[(first, second)], around)
    return least


def least_walk(crossing, streams):
    """Return the least number of beats of a closed walk of a crowd."""
    if not is_crowd(crossing, streams):
        raise NotCrowd()
    least = distances(crossing, streams)
    tours = [(streams[0], *tail) for tail in arrangements(streams[1:], len(streams) - 1)]
    return min([sum([least[(tour[place - 1], stream)] for place, stream in enumerate(tour)]) for tour in tours])
