"""How near a broken promise is."""

from crossinglights.moments import moment_of
from crossinglights.turnings import Turning
from crossinglights.walks import Walk, check_most


def breach_from(town, state, most=500):
    """Return the least of the shortest rows of comings from a state on that break a promise, or None."""
    check_most(most)
    return Walk(Turning(town), moment_of(town, state), most).row
