"""Towns: sites with offsets, and streets between their lanes."""

from crossinglights.errors import BadTown, UnknownLane, UnknownName, UnknownSite, UnknownStream
from crossinglights.lanes import Foot, Road
from crossinglights.places import first_wrong
from crossinglights.sites import Site

MOST_SITES = 4
MOST_SOURCES = 6
MOST_STREETS = 6
FOOT_PARTS = ("bound",)
ROAD_PARTS = ("capacity", "rate", "bus")


def check_sites(sites):
    """Raise BadTown unless there are one to four sites whose books have the same length."""
    if not 1 <= len(sites) <= MOST_SITES:
        raise BadTown("sites", 0)
    for number, site in enumerate(sites):
        if site.book.length != sites[0].book.length:
            raise BadTown("site", number)


def check_offsets(sites, offsets):
    """Raise BadTown unless each site has an offset that is a beat of the round."""
    place = first_wrong(offsets, len(sites), 0, sites[0].book.length - 1)
    if place is not None:
        raise BadTown("offset", place)


def check_lanes(sites):
    """Raise BadTown if too many lanes are foot lanes or have a rate."""
    sources = [lane for site in sites for lane in site.lanes if lane.foot or lane.rate is not None]
    if len(sources) > MOST_SOURCES:
        raise BadTown("lanes", 0)


def is_road(sites, pair):
    """Return True if there is a road lane of this site and this stream."""
    site, stream = pair
    if not 0 <= site < len(sites) or not 0 <= stream < len(sites[site].lanes):
        return False
    return not sites[site].lanes[stream].foot


def joins_roads(sites, street):
    """Return True if the street leads from a road lane to a road lane without a rate."""
    if not is_road(sites, street.start) or not is_road(sites, street.end):
        return False
    site, stream = street.end
    return sites[site].lanes[stream].rate is None


def check_streets(sites, streets):
    """Raise BadTown if there are too many streets, or for the first wrong one."""
    if len(streets) > MOST_STREETS:
        raise BadTown("streets", 0)
    for number, street in enumerate(streets):
        starts = [earlier.start for earlier in streets[:number]]
        ends = [earlier.end for earlier in streets[:number]]
        if not joins_roads(sites, street) or street.start in starts or street.end in ends:
            raise BadTown("street", number)


def changed_lane(lane, values):
    """Return a lane like this one with the values of a dict by names."""
    known = FOOT_PARTS if lane.foot else ROAD_PARTS
    for name in values:
        if name not in known:
            raise UnknownName(name)
    if lane.foot:
        return Foot(values.get("bound", lane.bound))
    capacity = values.get("capacity", lane.capacity)
    return Road(capacity, rate=values.get("rate", lane.rate), bus=values.get("bus", lane.bus))


def check_site(town, number):
    """Raise UnknownSite unless the town has a site with this number."""
    if not 0 <= number < len(town.sites):
        raise UnknownSite(number)


def check_lane(town, number):
    """Raise UnknownLane unless the town has a lane with this number."""
    if not 0 <= number < len(town):
        raise UnknownLane(number)


def is_held_by(book, stream):
    """Return True if a phase of the book has the stream among its holds."""
    return any([stream in phase.holds for phase in book.phases])


class Town:
    """Sites with offsets, and streets; the lanes of all sites are numbered through."""

    def __init__(self, sites, offsets, streets):
        check_sites(sites)
        check_offsets(sites, offsets)
        check_lanes(sites)
        check_streets(sites, streets)
        self.length = sites[0].book.length
        self.sites = tuple(sites)
        self.offsets = tuple(offsets)
        self.streets = tuple(streets)
        self._pairs = tuple([(number, stream) for number, site in enumerate(sites)
                             for stream in range(len(site.lanes))])

    def __len__(self):
        return len(self._pairs)

    def __eq__(self, other):
        return (isinstance(other, Town) and self.sites == other.sites and self.offsets == other.offsets
                and self.streets == other.streets)

    def lane_number(self, site, stream):
        """Return the number of the lane of a stream of a site."""
        check_site(self, site)
        if not 0 <= stream < len(self.sites[site].lanes):
            raise UnknownStream(stream)
        return self._pairs.index((site, stream))

    def pair(self, number):
        """Return the pair of the site and the stream of a lane."""
        check_lane(self, number)
        return self._pairs[number]

    def lane(self, number):
        """Return the lane with this number."""
        site, stream = self.pair(number)
        return self.sites[site].lanes[stream]

    def at(self, offsets):
        """Return the town with other offsets."""
        return Town(self.sites, offsets, self.streets)

    def turned(self, beats):
        """Return the town in which all offsets are so many beats greater."""
        return self.at([(offset + beats) % self.length for offset in self.offsets])

    def changed(self, number, **more):
        """Return the town in which the lane with this number has other values."""
        place, stream = self.pair(number)
        old = self.sites[place]
        lane = changed_lane(old.lanes[stream], more)
        site = Site(old.book, [*old.lanes[:stream], lane, *old.lanes[stream + 1:]])
        sites = [*self.sites[:place], site, *self.sites[place + 1:]]
        return Town(sites, self.offsets, self.streets)

    @property
    def tiered(self):
        """True if no site has both starts and ends of streets, and no phase has the lane of an end as a hold."""
        starting = [street.start[0] for street in self.streets]
        for street in self.streets:
            site, stream = street.end
            if site in starting or is_held_by(self.sites[site].book, stream):
                return False
        return True
