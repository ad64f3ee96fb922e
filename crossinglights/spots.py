"""One lane in one beat.

A spot tells how a lane is before a beat: the tuple (count, ahead, age, credit) of what a state tells of the lane.
"""

from crossinglights.sites import has_buses

BUS = 2
NO_BUS = -1


def first_spot(lane):
    """Return the spot of a lane to which nothing has ever come."""
    return (0, NO_BUS, 0, 0 if lane.foot or lane.rate is None else lane.rate.full)


def lane_comings(lane, spot):
    """Return the ascending list of what can come to the lane from outside in a beat."""
    if lane.foot:
        return [0, 1]
    age, credit = spot[2:]
    if lane.rate is None or credit < lane.rate.den:
        return [0]
    return [0, 1, BUS] if has_buses(lane) and age == 0 else [0, 1]


def foot_age(age, coming, green):
    """Return the age of a foot lane after a beat."""
    if green:
        return 0
    return age + 1 if age > 0 else coming


def bus_age(bound, age, coming, ahead):
    """Return the age of a lane with buses after a beat; ahead is that after the beat, too."""
    if coming == BUS:
        return 1
    if age == 0 or (age >= bound and ahead == NO_BUS):
        return 0
    return age + 1


def bus_ahead(spot, coming, gone):
    """Return how many vehicles stand before the bus of a lane after a beat, NO_BUS if there is none."""
    count, ahead = spot[:2]
    before = count if coming == BUS else ahead
    # A bus that has nobody before it is the vehicle that leaves, and one less than 0 is NO_BUS.
    return NO_BUS if before == NO_BUS else before - gone


def foot_after(spot, coming, green):
    """Return the spot of a foot lane after a beat."""
    return (0, NO_BUS, foot_age(spot[2], coming, green), 0)


def road_after(lane, spot, coming, arrived, gone):
    """Return the spot of a road lane after a beat in which so many vehicles came to its queue and left it."""
    count, _, age, credit = spot
    ahead = bus_ahead(spot, coming, gone)
    later_age = bus_age(lane.bus, age, coming, ahead) if has_buses(lane) else 0
    later_credit = 0 if lane.rate is None else lane.rate.after(credit, min(coming, 1))
    return (count + arrived - gone, ahead, later_age, later_credit)


def is_late(lane, spot):
    """Return True if a call or a bus waits longer on the lane than its bound."""
    ahead, age = spot[1:3]
    return age > lane.bound and (lane.foot or ahead != NO_BUS)


def broken_words(lane, spot):
    """Return the list of the words of the promises that a spot after a beat breaks."""
    words = ["full"] if not lane.foot and spot[0] > lane.capacity else []
    return [*words, "late"] if is_late(lane, spot) else words


class LaneTurn:
    """What happens on a lane in a beat: what comes from outside, what enters and leaves it, and what then is."""

    def __init__(self, coming, entered, gone, spot, words):
        self.coming = coming
        self.entered = entered
        self.gone = gone
        self.spot = spot
        self.words = words


def lane_turn(lane, spot, coming, arrives, green, counted):
    """Return the turn of a lane; arrives tells of a vehicle from a street, counted whether its queue matters."""
    if lane.foot:
        later = foot_after(spot, coming, green)
        return LaneTurn(coming, coming, 0, later, broken_words(lane, later))
    entered = 1 if arrives or coming > 0 else 0
    gone = 1 if green and spot[0] + entered > 0 else 0
    later = road_after(lane, spot, coming, entered, gone)
    if not counted:
        later = (0, *later[1:])
    return LaneTurn(coming, entered, gone, later, broken_words(lane, later))
