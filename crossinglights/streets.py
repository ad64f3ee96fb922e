"""Streets: ways from one lane to another."""

from crossinglights.errors import BadStreet

MOST_TRAVEL = 6


class Street:
    """A way from the lane at its start to the lane at its end, both pairs of a site and a stream."""

    def __init__(self, start, end, travel):
        if not 1 <= travel <= MOST_TRAVEL:
            raise BadStreet()
        self.start = tuple(start)
        self.end = tuple(end)
        self.travel = travel

    def __eq__(self, other):
        return (isinstance(other, Street) and self.start == other.start and self.end == other.end
                and self.travel == other.travel)
