"""What a beat does to a town."""

from crossinglights.errors import Broken, NotComing
from crossinglights.moments import moment_of, state_of
from crossinglights.states import can_come
from crossinglights.turnings import Turning


def turn_with(town, state, comings, place=0):
    """Return the turn of a town with these comings; raise NotComing(place) if they cannot come."""
    if not can_come(town, state, comings):
        raise NotComing(place)
    return Turning(town).turn(moment_of(town, state), comings)


def whole_turn(town, state, comings, place=0):
    """Return the turn with these comings; raise NotComing(place) or Broken(place, breaks)."""
    turn = turn_with(town, state, comings, place)
    if len(turn.broken) > 0:
        raise Broken(place, turn.broken)
    return turn


def after(town, state, comings):
    """Return the state after a beat."""
    return state_of(whole_turn(town, state, comings).later)


def breaks(town, state, comings):
    """Return the ascending list of what a beat breaks."""
    return list(turn_with(town, state, comings).broken)


def leaving(town, state, comings):
    """Return a tuple with 1 for each lane that a vehicle leaves in a beat, otherwise 0."""
    return turn_with(town, state, comings).all_gone()
