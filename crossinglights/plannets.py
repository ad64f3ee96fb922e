"""The net of the plans of a crossing with given greens."""

from crossinglights.beats import Beats
from crossinglights.nets import Net
from crossinglights.plans import check_greens, check_length


def plan_net(crossing, length, greens):
    """Return the net that exactly the begins of plans with these greens keep."""
    check_length(length)
    check_greens(crossing, length, greens)
    ties = []
    for first, second, forth, back in crossing.rivals:
        allowed = Beats.window(length, greens[first] + forth, length - greens[second] - back)
        ties.append((first, second, allowed))
    return Net(length, len(crossing), ties)
