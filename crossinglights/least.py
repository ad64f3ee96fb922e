"""The least number for a value of a lane with which a town keeps all promises."""

from crossinglights.errors import UnknownName
from crossinglights.lanes import MOST_BOUND, MOST_BUS, MOST_CAPACITY
from crossinglights.sites import has_buses
from crossinglights.verdicts import Table, judge
from crossinglights.walks import check_most


class Least:
    """The least good number of a part and its table, None for both if there is none, and the breaches before it."""

    def __init__(self, part, number, table, breaches):
        self.part = part
        self.number = number
        self.table = table
        self.breaches = breaches


def numbers_for(lane, part):
    """Return the pair of the least and the greatest number to be tried; raise UnknownName if there is no such part."""
    if part == "bound" and lane.foot:
        return (1, MOST_BOUND)
    if part == "capacity" and not lane.foot:
        return (0, MOST_CAPACITY)
    if part == "bus" and has_buses(lane):
        return (1, MOST_BUS)
    raise UnknownName(part)


def least(town, number, part, most=500):
    """Try the numbers for a part of the lane with this number, in ascending order."""
    check_most(most)
    low, high = numbers_for(town.lane(number), part)
    breaches = []
    for value in range(low, high + 1):
        values = {part: value}
        verdict = judge(town.changed(number, **values), most)
        if isinstance(verdict, Table):
            return Least(part, value, verdict, breaches)
        breaches.append(verdict)
    return Least(part, None, None, breaches)
