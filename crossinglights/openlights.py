"""The lights to which any comings can lead, and what can happen at a crossing with them."""

from crossinglights.errors import UnknownStream
from crossinglights.lights import next_lights, quiet, shown


def check_stream(book, stream):
    """Raise UnknownStream unless the crossing of the book has such a stream."""
    if not 0 <= stream < len(book.crossing):
        raise UnknownStream(stream)


def successors(book, lights, *, call=None, buses=True):
    """Return the ascending list of the lights that can follow these."""
    streams = list(range(len(book.crossing)))
    # Each phase that can be next is next if no more than one of its calls is waiting beside the given one.
    surely = [] if call is None else [call]
    calls = [surely] + [[*surely, stream] for stream in streams]
    asking = [None, *streams] if buses else [None]
    return sorted({next_lights(book, lights, came, waiting, bus)
                   for came in [[], streams] for waiting in calls for bus in asking})


def light_graph(book, buses):
    """Return the dict of the open lights with the lists of their successors."""
    graph = {}
    pending = quiet(book)
    while len(pending) > 0:
        lights = pending.pop()
        if lights not in graph:
            graph[lights] = successors(book, lights, buses=buses)
            pending.extend(graph[lights])
    return graph


def open_lights(book, *, buses=True):
    """Return the ascending list of the lights to which any comings can lead."""
    return sorted(light_graph(book, buses))


def least_beats(book, graph, first, second):
    """Return the least number of beats from a green of first to one of second along open lights, or None."""
    front = [lights for lights in graph if first in shown(book, lights)]
    # The way with the fewest beats meets no lights twice.
    for beats in range(len(graph)):
        if any([second in shown(book, lights) for lights in front]):
            return beats
        front = sorted({later for lights in front for later in graph[lights]})
    return None


def closest(book, first, second, *, buses=True):
    """Return the least number of beats from a green of first to a green of second, or None."""
    check_stream(book, first)
    check_stream(book, second)
    return least_beats(book, light_graph(book, buses), first, second)


def near_pair(book, *, buses=True):
    """Return the least pair of rivals that can be green too near to one another, or None."""
    graph = light_graph(book, buses)
    streams = list(range(len(book.crossing)))
    for first in streams:
        for second in streams:
            span = book.crossing.span(first, second)
            beats = None if span is None else least_beats(book, graph, first, second)
            if beats is not None and beats <= span:
                return (first, second)
    return None


def longest_call(book, stream, *, buses=True):
    """Return the greatest number of beats without the stream while a call on it is waiting, or None."""
    check_stream(book, stream)
    red = [lights for lights in light_graph(book, buses) if stream not in shown(book, lights)]
    following = {lights: successors(book, lights, call=stream, buses=buses) for lights in red}
    beats = 0
    # After k turns those are left that begin a run of more than k beats.
    while len(following) > 0:
        longer = {lights: following[lights] for lights in following
                  if any([later in following for later in following[lights]])}
        if len(longer) == len(following):
            return None
        following = longer
        beats = beats + 1
    return beats
