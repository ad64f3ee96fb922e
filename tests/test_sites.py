"""Sites and streets: points [49] and [50]."""

from crossinglights.errors import BadSite, BadStreet
from crossinglights.lanes import Foot, Road
from crossinglights.rates import Rate
from crossinglights.sites import Site
from crossinglights.streets import Street
from tests.support import Case, small_book

BUS = Road(3, rate=Rate(1, 1, 2), bus=4)


class SiteTest(Case):
    """Point [49]."""

    def assert_wrong(self, part, place, *args):
        self.assert_fails(BadSite, {"part": part, "place": place}, Site, *args)

    def test_attributes(self):
        book, lanes = small_book(3), [Foot(3), Road(4), BUS]
        site = Site(book, lanes)
        self.assertEqual((site.book, site.lanes), (book, (Foot(3), Road(4), BUS)))
        lanes.pop()
        self.assertEqual((len(site.lanes), type(site.lanes), len(lanes)), (3, tuple, 2))
        self.assertEqual(Site(book, tuple(site.lanes)), site)

    def test_wrong_numbers_of_lanes(self):
        for many, place in ((0, 0), (1, 1), (2, 2), (4, 3), (6, 3)):
            self.assert_wrong("lane", place, small_book(3), [BUS] * many)

    def test_two_lanes_with_buses(self):
        self.assert_wrong("bus", 1, small_book(2), [BUS, BUS])
        self.assert_wrong("bus", 3, small_book(5), [Foot(3), BUS, Road(0), BUS, BUS])
        # The bound of a foot lane is no bound of a bus.
        self.assertEqual(len(Site(small_book(3), [Foot(3), BUS, Foot(4)]).lanes), 3)

    def test_equality(self):
        site = Site(small_book(2), [Foot(3), Road(4)])
        self.assertEqual(site, Site(small_book(2), (Foot(3), Road(4))))
        for other in (Site(small_book(2), [Foot(3), Road(5)]), Site(small_book(2), [Road(4), Foot(3)]),
                      Site(small_book(2, 6), [Foot(3), Road(4)]), (small_book(2), (Foot(3), Road(4)))):
            self.assertNotEqual(site, other)


class StreetTest(Case):
    """Point [50]."""

    def test_attributes(self):
        for travel in (1, 6):
            street = Street((0, 1), (3, 5), travel)
            self.assertEqual((street.start, street.end, street.travel), ((0, 1), (3, 5), travel))

    def test_wrong_travels(self):
        for travel in (0, -1, 7, 10 ** 9):
            self.assert_fails(BadStreet, {}, Street, (0, 1), (0, 1), travel)

    def test_equality(self):
        street = Street((0, 1), (2, 3), 4)
        self.assertEqual(street, Street((0, 1), (2, 3), 4))
        for other in (Street((0, 2), (2, 3), 4), Street((0, 1), (2, 2), 4), Street((0, 1), (2, 3), 5),
                      Street((2, 3), (0, 1), 4), ((0, 1), (2, 3), 4)):
            self.assertNotEqual(street, other)
