"""Plans of one crossing: one green for each stream in each round."""

from crossinglights.beats import Beats, is_length
from crossinglights.errors import BadPlan, UnknownStream
from crossinglights.places import first_wrong


def check_length(length):
    """Raise BadPlan unless a plan can have a round of so many beats."""
    if not is_length(length):
        raise BadPlan("length", 0)


def check_greens(crossing, most, greens):
    """Raise BadPlan unless each stream has a green of 1 to most beats."""
    place = first_wrong(greens, len(crossing), 1, most)
    if place is not None:
        raise BadPlan("greens", place)


class Plan:
    """One green for each stream of a crossing, in a round of some beats."""

    def __init__(self, crossing, length, begins, greens):
        check_length(length)
        place = first_wrong(begins, len(crossing), 0, length - 1)
        if place is not None:
            raise BadPlan("begins", place)
        check_greens(crossing, length, greens)
        self.crossing = crossing
        self.length = length
        self.begins = tuple(begins)
        self.greens = tuple(greens)
        for number, rival in enumerate(crossing.rivals):
            if not self._keeps(rival):
                raise BadPlan("rival", number)

    def _keeps(self, rival):
        """Return True if the greens of the two rivals are far enough from one another."""
        first, second, forth, back = rival
        later = (self.begins[second] - self.begins[first]) % self.length
        return self.greens[first] + forth <= later and later + self.greens[second] + back <= self.length

    def __eq__(self, other):
        return (isinstance(other, Plan) and self.crossing == other.crossing and self.length == other.length
                and self.begins == other.begins and self.greens == other.greens)

    def green_beats(self, stream):
        """Return the set of the beats in which the stream is green."""
        self._check(stream)
        begin = self.begins[stream]
        return Beats.window(self.length, begin, begin + self.greens[stream] - 1)

    def shown(self, beat):
        """Return the ascending tuple of the streams that are green in a beat."""
        return tuple([stream for stream in range(len(self.begins)) if beat in self.green_beats(stream)])

    def gap(self, first, second):
        """Return the number of beats from the end of the green of first to the next begin of that of second."""
        self._check(first)
        self._check(second)
        return (self.begins[second] - self.begins[first] - self.greens[first]) % self.length

    def turned(self, beats):
        """Return the plan in which everything begins so many beats later."""
        begins = [(begin + beats) % self.length for begin in self.begins]
        return Plan(self.crossing, self.length, begins, self.greens)

    def _check(self, stream):
        """Raise UnknownStream unless there is such a stream."""
        if not 0 <= stream < len(self.begins):
            raise UnknownStream(stream)
