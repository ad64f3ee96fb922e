"""Offsets for any town, found by trying."""

from crossinglights.listings import products
from crossinglights.verdicts import Table, judge
from crossinglights.walks import check_most


class Trial:
    """The first good offsets and their table, None for both if there are none, and the breaches before them."""

    def __init__(self, offsets, table, breaches):
        self.offsets = offsets
        self.table = table
        self.breaches = breaches


def trial(town, most=500):
    """Try all offsets in ascending order whose first one is 0."""
    check_most(most)
    breaches = []
    others = [list(range(town.length)) for _ in town.sites[1:]]
    for offsets in products([[0], *others]):
        verdict = judge(town.at(offsets), most)
        if isinstance(verdict, Table):
            return Trial(offsets, verdict, breaches)
        breaches.append(verdict)
    return Trial(None, None, breaches)
