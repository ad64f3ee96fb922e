"""Crossings: streams, and the beats that must pass between the greens of rivals."""

from crossinglights.errors import BadCrossing, UnknownName, UnknownStream
from crossinglights.names import is_name

MOST_STREAMS = 6
MOST_SPAN = 9


def check_streams(streams):
    """Raise BadCrossing unless these are one to six different names."""
    if not 1 <= len(streams) <= MOST_STREAMS:
        raise BadCrossing("streams", 0)
    for place, name in enumerate(streams):
        if not is_name(name) or name in streams[:place]:
            raise BadCrossing("stream", place)


def is_rival(rival, count):
    """Return True if the tuple is a rival of a crossing with so many streams."""
    if len(rival) != 4:
        return False
    first, second, forth, back = rival
    known = 0 <= first < count and 0 <= second < count and first != second
    return known and 0 <= forth <= MOST_SPAN and 0 <= back <= MOST_SPAN


def spans_of(rivals, count):
    """Return the dict of the spans by pairs of streams; raise BadCrossing for the first wrong rival."""
    spans = {}
    for place, rival in enumerate(rivals):
        if not is_rival(rival, count) or (rival[0], rival[1]) in spans:
            raise BadCrossing("rival", place)
        first, second, forth, back = rival
        spans[(first, second)] = forth
        spans[(second, first)] = back
    return spans


class Crossing:
    """Streams that meet, some of them rivals."""

    def __init__(self, streams, rivals):
        check_streams(streams)
        self._spans = spans_of(rivals, len(streams))
        self.streams = tuple(streams)
        self.rivals = tuple([tuple(rival) for rival in rivals])

    def __len__(self):
        return len(self.streams)

    def __eq__(self, other):
        return isinstance(other, Crossing) and self.streams == other.streams and self._spans == other._spans

    def index(self, name):
        """Return the number of the stream with this name."""
        for stream, known in enumerate(self.streams):
            if known == name:
                return stream
        raise UnknownName(name)

    def span(self, first, second):
        """Return the beats from the end of a green of first to the begin of one of second, or None."""
        self._check(first)
        self._check(second)
        return self._spans.get((first, second))

    def longest(self, stream):
        """Return the greatest span from this stream to a rival, or 0."""
        self._check(stream)
        return max([self._spans[pair] for pair in self._spans if pair[0] == stream], default=0)

    def _check(self, stream):
        """Raise UnknownStream unless there is such a stream."""
        if not 0 <= stream < len(self.streams):
            raise UnknownStream(stream)
