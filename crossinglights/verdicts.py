"""Verdicts: a closed table of the states of a town, or a shortest row of comings that breaks a promise."""

from crossinglights.errors import UnknownState
from crossinglights.moments import first_moment, state_of
from crossinglights.spots import NO_BUS
from crossinglights.towns import check_lane
from crossinglights.turnings import Turning
from crossinglights.walks import Walk, check_most, way_to


class Verdict:
    """What is known about the promises of a town."""

    def __init__(self, town):
        self.town = town

    def told(self):
        """Return the number of the lanes in words."""
        return f"town of {len(self.town)} lanes:"


class Table(Verdict):
    """All open states of a town in which no promise can be broken."""

    def __init__(self, town, before):
        super().__init__(town)
        self._before = before

    def __len__(self):
        return len(self._before)

    def __contains__(self, x):
        return x in self._before

    def __iter__(self):
        return iter(self._before)

    def states(self):
        """Return the list of the states."""
        return list(self._before)

    def row_to(self, state):
        """Return the least of the shortest rows of comings that lead to a state."""
        if state not in self._before:
            raise UnknownState()
        return way_to(self._before, state)

    def greatest(self, lane):
        """Return the greatest count of a lane."""
        check_lane(self.town, lane)
        return max([state[3][lane] for state in self._before])

    def longest(self, lane):
        """Return the greatest number of beats that a call or a bus on a lane has to wait."""
        check_lane(self.town, lane)
        foot = self.town.lane(lane).foot
        return max([state[5][lane] for state in self._before if foot or state[4][lane] != NO_BUS], default=0)

    def told(self):
        """Return the numbers of the lanes and the states in words."""
        return super().told() + f" {len(self)} states"


class Breach(Verdict):
    """The least of the shortest rows of comings that break promises, and what they break."""

    def __init__(self, town, row, broken):
        super().__init__(town)
        self.row = row
        self.breaks = broken

    def told(self):
        """Return the number of the lanes, the length of the row and what it breaks in words."""
        words = [f" {part}" for entry in self.breaks for part in entry]
        return super().told() + f" broken in {len(self.row)} beats by" + "".join(words)


def by_states(before):
    """Return the dict of the pairs before all states for that of the pairs before all moments."""
    states = {moment: state_of(moment) for moment in before}
    found = {}
    for moment, pair in before.items():
        found[states[moment]] = None if pair is None else (states[pair[0]], pair[1])
    return found


def judge(town, most=500):
    """Return a Breach if a promise can be broken, otherwise a Table."""
    check_most(most)
    walk = Walk(Turning(town), first_moment(town), most)
    if walk.row is not None:
        return Breach(town, walk.row, walk.broken)
    return Table(town, by_states(walk.before))
