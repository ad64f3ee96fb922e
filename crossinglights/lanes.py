"""Lanes: one for each stream of a crossing in a town."""

from crossinglights.errors import BadLane

MOST_BOUND = 24
MOST_CAPACITY = 9
MOST_BUS = 12


class Lane:
    """A lane on which somebody waits at most some beats."""

    def __init__(self, bound):
        self.bound = bound

    @property
    def foot(self):
        """True for a foot lane."""
        return False

    def told(self):
        """Return the written form of the lane."""
        return f"lane {self.bound}"


class Foot(Lane):
    """A lane on which people call."""

    def __init__(self, bound):
        if not 1 <= bound <= MOST_BOUND:
            raise BadLane("bound")
        super().__init__(bound)

    @property
    def foot(self):
        """True for a foot lane."""
        return True

    def __eq__(self, other):
        return isinstance(other, Foot) and self.bound == other.bound

    def told(self):
        """Return the written form of the lane."""
        return f"foot {self.bound}"


class Road(Lane):
    """A lane on which vehicles wait in a queue, perhaps with buses."""

    def __init__(self, capacity, *, rate=None, bus=0):
        if not 0 <= capacity <= MOST_CAPACITY:
            raise BadLane("capacity")
        if not 0 <= bus <= MOST_BUS or (bus != 0 and rate is None):
            raise BadLane("bus")
        super().__init__(bus)
        self.capacity = capacity
        self.rate = rate
        self.bus = bus

    def __eq__(self, other):
        return (isinstance(other, Road) and self.capacity == other.capacity and self.rate == other.rate
                and self.bus == other.bus)

    def told(self):
        """Return the written form of the lane."""
        text = f"road {self.capacity}"
        if self.rate is not None:
            text = text + f" rate {self.rate.burst} {self.rate.num}/{self.rate.den}"
        if self.bus != 0:
            text = text + f" bus {self.bus}"
        return text
