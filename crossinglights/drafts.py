"""Towns of which only some lines have been read."""

from crossinglights.books import Book
from crossinglights.crossings import Crossing
from crossinglights.lanes import Road
from crossinglights.phases import Phase
from crossinglights.sites import Site
from crossinglights.towns import Town, check_site


class Draft:
    """What the lines have told so far; names, lanes, rivals, main and phases are those of the last site."""

    def __init__(self):
        self.length = 0
        self.sites = []
        self.offsets = []
        self.streets = []
        self._forget_site()

    def _forget_site(self):
        """Forget what has been told of the last site."""
        self.names = []
        self.lanes = []
        self.rivals = []
        self.main = Phase([])
        self.phases = []

    def begin_site(self, offset):
        """Begin the next site."""
        if len(self.offsets) > 0:
            self.sites.append(self._last_site())
        self._forget_site()
        self.offsets.append(offset)

    def _last_site(self):
        """Return the last site so far; raise what its parts raise."""
        # A site without streams has a lane all the same: its length, number and offset can be wrong before it has any.
        names, lanes = (self.names, self.lanes) if len(self.names) > 0 else (["a"], [Road(0)])
        return Site(Book(Crossing(names, self.rivals), self.length, self.main, self.phases), lanes)

    def made(self):
        """Return the town so far, None before its first site; raise what its parts raise."""
        site = self._last_site()
        return None if len(self.offsets) == 0 else Town([*self.sites, site], self.offsets, self.streets)

    def numbers(self, names):
        """Return the list of the numbers of the streams of the last site with these names."""
        crossing = Crossing(self.names, [])
        return [crossing.index(name) for name in names]


def pair_in(town, site, name):
    """Return the pair of a site and its stream with this name; raise UnknownSite or UnknownName."""
    check_site(town, site)
    return (site, town.sites[site].book.crossing.index(name))
