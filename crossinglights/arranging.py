"""Offsets for a whole tiered town, or a reason why none are good."""

from crossinglights.pairs import alone, check_tiered, street_net
from crossinglights.settling import Setting, settle
from crossinglights.verdicts import Breach, judge
from crossinglights.walks import check_most


class Arrangement:
    """A site that is broken alone, or what is known about the street net, with good offsets if it has a setting."""

    def __init__(self, site, breach, settling, offsets, town):
        self.site = site
        self.breach = breach
        self.settling = settling
        self.offsets = offsets
        self.town = town


def arrange(town, most=500):
    """Return the arrangement of a tiered town."""
    check_most(most)
    check_tiered(town)
    for number in range(len(town.sites)):
        verdict = judge(alone(town, number), most)
        if isinstance(verdict, Breach):
            return Arrangement(number, verdict, None, None, None)
    settling = settle(street_net(town, most))
    if isinstance(settling, Setting):
        return Arrangement(None, None, settling, settling.beats, town.at(settling.beats))
    return Arrangement(None, None, settling, None, None)
