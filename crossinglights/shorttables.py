"""Short tables: states without the queues of last lanes, and how long those can become."""

from crossinglights.errors import UnknownState
from crossinglights.moments import first_moment, state_of
from crossinglights.sites import has_buses
from crossinglights.states import green_lanes
from crossinglights.turnings import Turning
from crossinglights.verdicts import Verdict
from crossinglights.walks import Walk, check_most


class Short(Verdict):
    """The rests of all open states of a town in which no promise can be broken."""

    def __init__(self, town, heights):
        super().__init__(town)
        self._heights = heights

    def __len__(self):
        return len(self._heights)

    def __contains__(self, x):
        return x in self._heights

    def rests(self):
        """Return the list of the rests."""
        return list(self._heights)

    def heights(self, rest):
        """Return the greatest count of each lane in an open state with this rest."""
        if rest not in self._heights:
            raise UnknownState()
        return self._heights[rest]

    def told(self):
        """Return the numbers of the lanes and the rests in words."""
        return super().told() + f" {len(self)} rests"


def last_lanes(town):
    """Return the ascending tuple of the lanes whose queues have no effect on anything else."""
    starts = [street.start for street in town.streets]
    return tuple([number for number in range(len(town)) if not town.lane(number).foot
                  and not has_buses(town.lane(number)) and town.pair(number) not in starts])


def rest_of(town, state):
    """Return the state with the count 0 for all last lanes."""
    last = last_lanes(town)
    counts = tuple([0 if number in last else count for number, count in enumerate(state[3])])
    return (*state[:3], counts, *state[4:])


def ways_from(town, turning, rest, last):
    """Return the list of the ways from the moment of a rest to the next ones.

    A way is a pair of the next moment and, for each last lane, the pair of what enters it and whether it is green.
    """
    green = green_lanes(town, state_of(rest))
    found = {}
    for turn in turning.turns(rest):
        entered = turn.all_entered()
        found[(turn.later, tuple([(entered[lane], lane in green) for lane in last]))] = True
    return list(found)


def later_queue(queue, entered, green):
    """Return the number in a queue after a beat."""
    return max(0, queue + entered - 1) if green else queue + entered


def greatest_queues(ways, capacities):
    """Return the dict of the greatest queues of the last lanes before each moment, None if one exceeds its capacity.

    ways is the dict of the ways from each moment.
    """
    queues = {rest: (0,) * len(capacities) for rest in ways}
    pending = list(ways)
    while len(pending) > 0:
        rest = pending.pop()
        for later, changes in ways[rest]:
            grown = tuple([max(known, later_queue(queue, entered, green)) for known, queue, (entered, green)
                           in zip(queues[later], queues[rest], changes)])
            if any([queue > capacity for queue, capacity in zip(grown, capacities)]):
                return None
            if grown != queues[later]:
                queues[later] = grown
                pending.append(later)
    return queues


def rest_heights(state, last, queues):
    """Return the tuple of the counts of a rest with these queues on the last lanes."""
    known = {lane: queue for lane, queue in zip(last, queues)}
    return tuple([known.get(lane, count) for lane, count in enumerate(state[3])])


def short_table(town, most=500):
    """Return a Short if no promise can be broken, otherwise None."""
    check_most(most)
    last = last_lanes(town)
    turning = Turning(town, last)
    walk = Walk(turning, first_moment(town), most)
    if walk.row is not None:
        return None
    ways = {rest: ways_from(town, turning, rest, last) for rest in walk.before}
    queues = greatest_queues(ways, [town.lane(lane).capacity for lane in last])
    if queues is None:
        return None
    states = {rest: state_of(rest) for rest in queues}
    return Short(town, {states[rest]: rest_heights(states[rest], last, queues[rest]) for rest in queues})
