"""Sites: crossings in a town."""

from crossinglights.errors import BadSite


def has_buses(lane):
    """Return True if buses can come on the lane."""
    return not lane.foot and lane.bus != 0


class Site:
    """A book, and a lane for each stream of its crossing."""

    def __init__(self, book, lanes):
        if len(lanes) != len(book.crossing):
            raise BadSite("lane", min(len(lanes), len(book.crossing)))
        with_buses = [stream for stream, lane in enumerate(lanes) if has_buses(lane)]
        if len(with_buses) > 1:
            raise BadSite("bus", with_buses[1])
        self.book = book
        self.lanes = tuple(lanes)

    def __eq__(self, other):
        return isinstance(other, Site) and self.book == other.book and self.lanes == other.lanes
