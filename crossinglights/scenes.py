"""One site in one beat.

A part tells how a site is before a beat: the tuple (lights, since, spots) of the pair of its lights, the numbers of
beats since the last greens of its lanes, and the spots of its lanes.
"""

from crossinglights.lights import next_lights, quiet, shown
from crossinglights.listings import products
from crossinglights.spots import NO_BUS, first_spot, lane_comings, lane_turn


class SiteTurn:
    """What happens at a site in a beat: the turns of its lanes, what is broken there, and the part that follows."""

    def __init__(self, lane_turns, broken, part):
        self.lane_turns = lane_turns
        self.broken = broken
        self.part = part


class Scene:
    """A site in a beat, before it is known what comes from outside."""

    def __init__(self, site, first, beat, part, arriving, uncounted):
        lights, since, spots = part
        self._site = site
        self._first = first
        self._lights = (beat, *lights)
        self._spots = spots
        self._arriving = arriving
        self._uncounted = uncounted
        self._green = shown(site.book, self._lights)
        self._near = near_breaks(site.book.crossing, first, self._green, since)
        self._later_since = later_since(site.book.crossing, self._green, since)

    def turns(self):
        """Return the list of the turns for all that can come from outside, in the order of the comings."""
        rows = [[self._lane_turn(stream, coming) for coming in lane_comings(lane, self._spots[stream])]
                for stream, lane in enumerate(self._site.lanes)]
        return [self._turn(chosen) for chosen in products(rows)]

    def turn(self, comings):
        """Return the turn for what comes to each lane from outside."""
        return self._turn(tuple([self._lane_turn(stream, coming) for stream, coming in enumerate(comings)]))

    def _lane_turn(self, stream, coming):
        """Return the turn of the lane of a stream."""
        counted = self._first + stream not in self._uncounted
        return lane_turn(self._site.lanes[stream], self._spots[stream], coming, stream in self._arriving,
                         stream in self._green, counted)

    def _turn(self, chosen):
        """Return the turn with these turns of the lanes."""
        broken = [(word, self._first + stream) for stream, turn in enumerate(chosen) for word in turn.words]
        spots = tuple([turn.spot for turn in chosen])
        return SiteTurn(chosen, [*self._near, *broken], (self._next_pair(chosen), self._later_since, spots))

    def _next_pair(self, chosen):
        """Return the phase and the count of the lights that follow."""
        feet = [lane.foot for lane in self._site.lanes]
        came = [stream for stream, turn in enumerate(chosen) if turn.entered == 1 and not feet[stream]]
        waiting = [stream for stream, turn in enumerate(chosen) if feet[stream] and turn.spot[2] != 0]
        asking = [stream for stream, turn in enumerate(chosen) if turn.spot[1] != NO_BUS]
        bus = asking[0] if len(asking) > 0 else None
        _, number, count = next_lights(self._site.book, self._lights, came, waiting, bus)
        return (number, count)


def near_breaks(crossing, first, green, since):
    """Return the list of the breaks by rivals; first is the number of the lane of stream 0."""
    found = []
    for earlier in range(len(crossing)):
        for later in green:
            span = crossing.span(earlier, later)
            if span is not None and (earlier in green or since[earlier] < span):
                found.append(("near", first + earlier, first + later))
    return found


def later_since(crossing, green, since):
    """Return the tuple of the numbers of beats since the last greens after one more beat."""
    return tuple([0 if stream in green else min(crossing.longest(stream), beats + 1)
                  for stream, beats in enumerate(since)])


def quiet_since(book, beat, stream):
    """Return the beats since the last green of the stream before a beat, if the lights have always been quiet."""
    lights = quiet(book)
    longest = book.crossing.longest(stream)
    for beats in range(min(longest, book.length)):
        if stream in shown(book, lights[beat - 1 - beats]):
            return beats
    return longest


def first_part(site, beat):
    """Return the part of a site to which nothing has ever come, before this beat of the site."""
    _, number, count = quiet(site.book)[beat]
    since = tuple([quiet_since(site.book, beat, stream) for stream in range(len(site.lanes))])
    return ((number, count), since, tuple([first_spot(lane) for lane in site.lanes]))
