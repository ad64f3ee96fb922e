"""Tiered towns, taken apart: the sites alone, and the pairs of sites that a street joins."""

from crossinglights.beats import Beats
from crossinglights.errors import NotTiered, UnknownStreet
from crossinglights.nets import Net
from crossinglights.streets import Street
from crossinglights.towns import Town, check_site
from crossinglights.verdicts import Table, judge
from crossinglights.walks import check_most


def check_tiered(town):
    """Raise NotTiered unless the town is tiered."""
    if not town.tiered:
        raise NotTiered()


def check_street(town, street):
    """Raise UnknownStreet unless the town has a street with this number."""
    if not 0 <= street < len(town.streets):
        raise UnknownStreet(street)


def alone(town, site):
    """Return the town of a site alone."""
    check_tiered(town)
    check_site(town, site)
    return Town([town.sites[site]], [0], [])


def pair_town(town, street, difference):
    """Return the town of the two sites of a street, with these offsets apart, and of this street alone."""
    check_tiered(town)
    check_street(town, street)
    known = town.streets[street]
    sites = [town.sites[known.start[0]], town.sites[known.end[0]]]
    joining = Street((0, known.start[1]), (1, known.end[1]), known.travel)
    return Town(sites, [0, difference % town.length], [joining])


def good_differences(town, street, most=500):
    """Return the set of the differences of offsets for which the pair of a street keeps all promises."""
    check_most(most)
    check_tiered(town)
    check_street(town, street)
    return Beats(town.length, [difference for difference in range(town.length)
                               if isinstance(judge(pair_town(town, street, difference), most), Table)])


def street_net(town, most=500):
    """Return the net with a node for each site and a tie with the good differences for each street."""
    check_most(most)
    check_tiered(town)
    ties = [(street.start[0], street.end[0], good_differences(town, number, most))
            for number, street in enumerate(town.streets)]
    return Net(town.length, len(town.sites), ties)
