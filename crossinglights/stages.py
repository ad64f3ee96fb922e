"""Stages and crowds: streams that can be green together, and streams of which no two can."""

from crossinglights.listings import arrangements, choices
from crossinglights.places import first_strange

BARE_RING = 5


def pairs_of(streams):
    """Return all pairs of a stream and a later one."""
    return [(first, second) for place, first in enumerate(streams) for second in streams[place + 1:]]


def are_rivals(crossing, first, second):
    """Return True if the two streams are rivals."""
    return crossing.span(first, second) is not None


def is_stage(crossing, streams):
    """Return True if these are different streams of the crossing, no two of them rivals."""
    if first_strange(streams, len(crossing)) is not None:
        return False
    return not any([are_rivals(crossing, first, second) for first, second in pairs_of(streams)])


def is_crowd(crossing, streams):
    """Return True if these are one or more different streams of the crossing, every two of them rivals."""
    if len(streams) == 0 or first_strange(streams, len(crossing)) is not None:
        return False
    return all([are_rivals(crossing, first, second) for first, second in pairs_of(streams)])


def stages(crossing):
    """Return the ascending list of all stages that are not empty."""
    parts = choices(list(range(len(crossing))))
    return sorted([part for part in parts if len(part) > 0 and is_stage(crossing, part)])


def is_part(small, great):
    """Return True if all streams of a stage, and not all of the other one, are in both."""
    return len(small) < len(great) and all([stream in great for stream in small])


def greatest_stages(crossing):
    """Return the ascending list of the stages that are not part of another one."""
    known = stages(crossing)
    return [small for small in known if not any([is_part(small, great) for great in known])]


def greatest_crowd(crossing):
    """Return the least of the crowds with the most streams."""
    crowds = [part for part in choices(list(range(len(crossing)))) if is_crowd(crossing, part)]
    most = max([len(crowd) for crowd in crowds])
    return min([crowd for crowd in crowds if len(crowd) == most])


def divisions(known, streams):
    """Return all ascending lists of known stages in which each of these streams stands once."""
    if len(streams) == 0:
        return [[]]
    found = []
    for stage in known:
        if stage[0] == streams[0] and all([stream in streams for stream in stage]):
            others = [stream for stream in streams if stream not in stage]
            for tail in divisions(known, others):
                found.append([stage, *tail])
    return found


def fewest_stages(crossing):
    """Return the least list of as few stages as possible in which each stream stands once."""
    # A list of stages that is not ascending is never the least one: its sorted form is less.
    found = divisions(stages(crossing), list(range(len(crossing))))
    fewest = min([len(division) for division in found])
    return min([division for division in found if len(division) == fewest])


def is_bare_ring(crossing, ring):
    """Return True if neighbours of the ring are rivals, the ends too, and no other two of its streams."""
    for place in range(BARE_RING):
        following = ring[(place + 1) % BARE_RING]
        across = ring[(place + 2) % BARE_RING]
        if not are_rivals(crossing, ring[place], following) or are_rivals(crossing, ring[place], across):
            return False
    return True


def bare_ring(crossing):
    """Return the least bare ring of five streams, or None."""
    for ring in arrangements(list(range(len(crossing))), BARE_RING):
        if is_bare_ring(crossing, ring):
            return list(ring)
    return None
