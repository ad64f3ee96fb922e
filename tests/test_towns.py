"""Towns: points [51] and [52], and parts of [65] and [70]."""

from crossinglights.errors import BadLane, BadSite, BadTown, UnknownLane, UnknownName, UnknownSite, UnknownStream
from crossinglights.lanes import Foot, Road
from crossinglights.phases import Phase
from crossinglights.rates import Rate
from crossinglights.streets import Street
from crossinglights.towns import Town
from tests.support import Case, road_site

RATE = Rate(1, 1, 2)
SOURCE = Road(3, rate=RATE)


def two_sites():
    """Two sites of two road lanes each; a street leads from the first one to the second one."""
    first = road_site(SOURCE, Road(2))
    second = road_site(Road(4), Road(5), Foot(6))
    return Town([first, second], [1, 3], [Street((0, 0), (1, 1), 2)])


class MakingTest(Case):
    """Point [51]."""

    def assert_wrong(self, part, place, *args):
        self.assert_fails(BadTown, {"part": part, "place": place}, Town, *args)

    def test_attributes(self):
        site = road_site(SOURCE, Road(2))
        sites, offsets, streets = [site, site], [3, 0], [Street((0, 0), (1, 1), 2)]
        town = Town(sites, offsets, streets)
        self.assertEqual((town.length, town.sites, town.offsets, town.streets),
                         (4, (site, site), (3, 0), (Street((0, 0), (1, 1), 2),)))
        sites.pop(), offsets.pop(), streets.pop()
        self.assertEqual([type(held) for held in (town.sites, town.offsets, town.streets)], [tuple] * 3)
        self.assertEqual((len(town.sites), town.offsets, len(town.streets)), (2, (3, 0), 1))
        self.assertEqual(Town((site, site), (3, 0), (Street((0, 0), (1, 1), 2),)), town)

    def test_sites(self):
        site, other = road_site(Road(1)), road_site(Road(1), length=5)
        self.assertEqual(len(Town([site] * 4, [0] * 4, [])), 4)
        self.assert_wrong("sites", 0, [], [5], [None])
        self.assert_wrong("sites", 0, [site, other, site, site, site], [], [None])
        self.assert_wrong("site", 1, [site, other], [9], [])
        self.assert_wrong("site", 2, [other, other, site, site], [], [])

    def test_offsets(self):
        site = road_site(*[SOURCE] * 3)
        for offsets, place in (([], 0), ([0], 1), ((3, 3), 2), ([0, 4], 1), ((-1, 9), 0), ((0, 1, 2, 3), 3),
                               ([0, 1, -1], 2), ([3, 3, 4], 2), ([0, 1, 2, -1], 3)):
            self.assert_wrong("offset", place, [site] * 3, offsets, [None] * 7)
        self.assert_wrong("offset", 0, [site] * 3, [10 ** 9, 3, 3], [None] * 7)

    def test_lanes(self):
        many, few = road_site(SOURCE, Foot(3), SOURCE), road_site(Foot(1), Road(2), Foot(2))
        self.assertEqual(len(Town([many, road_site(Road(1), SOURCE), few], [0, 0, 0], [])), 8)
        self.assert_wrong("lanes", 0, [many, road_site(Foot(1), SOURCE), few], [0, 0, 0], [None] * 7)
        self.assert_wrong("lanes", 0, [road_site(*[Foot(1)] * 6), road_site(Foot(1))], [0, 0], [])
        self.assertEqual(len(Town([road_site(*[Road(1)] * 6)] * 4, [0] * 4, [])), 24)

    def test_numbers_of_streets(self):
        site = road_site(*[Road(1)] * 6)
        streets = [Street((0, k), (0, k), 1) for k in range(6)]
        self.assertEqual(len(Town([site], [0], streets).streets), 6)
        self.assert_wrong("streets", 0, [site], [0], [*streets, streets[0]])
        self.assert_wrong("streets", 0, [site], [0], [Street((9, 9), (9, 9), 1)] * 7)

    def test_lanes_of_streets(self):
        sites = [road_site(SOURCE, Road(1), Foot(1)), road_site(Road(1), SOURCE)]
        good = Street((1, 1), (0, 1), 1)
        self.assertEqual(Town(sites, [0, 0], [good]).streets, (good,))
        for start in ((2, 0), (-1, 0), (0, 3), (0, -1), (1, -1), (1, 2), (0, 2), (10 ** 9, -10 ** 9)):
            self.assert_wrong("street", 0, sites, [0, 0], [Street(start, (1, 0), 1)])
            self.assert_wrong("street", 1, sites, [0, 0], [good, Street((0, 0), start, 1)])
        for end in ((0, 0), (1, 1)):
            self.assert_wrong("street", 1, sites, [0, 0], [good, Street((1, 0), end, 1), Street((9, 9), end, 1)])

    def test_streets_that_share_a_start_or_an_end(self):
        site = road_site(*[Road(1)] * 3)
        good = [Street((0, 0), (1, 0), 1), Street((1, 0), (0, 0), 2)]
        self.assertEqual(len(Town([site, site], [0, 0], good).streets), 2)
        self.assert_wrong("street", 2, [site, site], [0, 0], [*good, Street((0, 0), (1, 1), 3)])
        self.assert_wrong("street", 2, [site, site], [0, 0], [*good, Street((0, 1), (1, 0), 3)])
        self.assert_wrong("street", 1, [site, site], [0, 0], [good[0], good[0], good[1], good[1]])

    def test_streets_that_lead_back(self):
        site = road_site(Road(1), Road(1))
        for streets in ([Street((0, 0), (0, 0), 1)], [Street((0, 0), (0, 1), 1), Street((0, 1), (0, 0), 6)]):
            self.assertEqual(len(Town([site], [0], streets).streets), len(streets))


class TownTest(Case):
    """Point [52]."""

    def test_numbers_of_lanes(self):
        town = two_sites()
        pairs = [(0, 0), (0, 1), (1, 0), (1, 1), (1, 2)]
        self.assertEqual(len(town), 5)
        self.assertEqual([town.pair(number) for number in range(5)], pairs)
        self.assertEqual([town.lane_number(site, stream) for site, stream in pairs], list(range(5)))
        self.assertEqual([town.lane(number) for number in range(5)], [SOURCE, Road(2), Road(4), Road(5), Foot(6)])

    def test_unknown_lanes(self):
        town = two_sites()
        for number in (-1, 5, 10 ** 9):
            self.assert_fails(UnknownLane, {"number": number}, town.pair, number)
            self.assert_fails(UnknownLane, {"number": number}, town.lane, number)
        for site in (-1, 2, 10 ** 9):
            self.assert_fails(UnknownSite, {"number": site}, town.lane_number, site, 7)
        for site, stream in ((0, 2), (0, -1), (1, 3), (1, -10 ** 9)):
            self.assert_fails(UnknownStream, {"number": stream}, town.lane_number, site, stream)

    def test_other_offsets(self):
        town = two_sites()
        self.assertEqual(town.at([0, 2]), Town(town.sites, (0, 2), town.streets))
        self.assertEqual(town.at((1, 3)), town)
        for offsets, place in (([], 0), ([1], 1), ([1, 4], 1), ((-1, 4), 0), ([0, 0, 0], 2)):
            self.assert_fails(BadTown, {"part": "offset", "place": place}, town.at, offsets)
        self.assertEqual(town.offsets, (1, 3))

    def test_turned(self):
        town = two_sites()
        for beats, offsets in ((0, (1, 3)), (1, (2, 0)), (-2, (3, 1)), (10 ** 9, (1, 3)), (-10 ** 9 + 3, (0, 2))):
            self.assertEqual(town.turned(beats), town.at(offsets))
        self.assertEqual(town.offsets, (1, 3))

    def test_equality(self):
        town = two_sites()
        self.assertEqual(town, two_sites())
        for other in (town.at([1, 2]), Town(town.sites, town.offsets, []), town.changed(1, capacity=3),
                      Town(town.sites, town.offsets, [Street((0, 0), (1, 1), 3)]), None):
            self.assertNotEqual(town, other)


class TieredTest(Case):
    """town.tiered of point [65]."""

    def test_tiered(self):
        self.assertIs(two_sites().tiered, True)
        self.assertIs(Town([road_site(Road(1))], [0], []).tiered, True)

    def test_starts_and_ends_at_one_site(self):
        site = road_site(Road(1), Road(1))
        for streets, wanted in (([((0, 0), (0, 0))], False), ([((0, 0), (0, 1))], False),
                                ([((0, 0), (1, 0)), ((0, 1), (1, 1))], True),
                                ([((0, 0), (1, 0)), ((1, 1), (0, 1))], False),
                                ([((0, 0), (1, 0)), ((2, 0), (1, 1)), ((0, 1), (3, 0))], True),
                                ([((0, 0), (1, 0)), ((2, 0), (3, 1)), ((1, 1), (3, 0))], False)):
            town = Town([site] * 4, [0] * 4, [Street(start, end, 1) for start, end in streets])
            self.assertIs(town.tiered, wanted)

    def test_ends_among_holds(self):
        start = road_site(Road(1), Road(1), phases=[Phase([0], holds=[0, 1])])
        for holds, calls, wanted in (([], [], True), ([0], [1], True), ([1], [], False), ([0, 1], [], False)):
            end = road_site(Road(1), Road(1), phases=[Phase([1]), Phase([1], holds=holds, calls=calls)])
            town = Town([start, end], [0, 0], [Street((0, 0), (1, 1), 1)])
            self.assertIs(town.tiered, wanted)
            self.assertIs(Town([start, end], [0, 0], []).tiered, True)


class ChangedTest(Case):
    """town.changed of point [70]."""

    def assert_wrong(self, error, attributes, town, *args, **more):
        self.assert_fails(error, attributes, lambda: town.changed(*args, **more))

    def test_foot_lanes(self):
        town = two_sites()
        found = town.changed(4, bound=24)
        self.assertEqual([found.lane(k) for k in range(5)], [SOURCE, Road(2), Road(4), Road(5), Foot(24)])
        self.assertEqual((found.offsets, found.streets, found.sites[0]), (town.offsets, town.streets, town.sites[0]))
        self.assertEqual(town, two_sites())
        self.assertEqual(town.changed(4), town)

    def test_road_lanes(self):
        town, rate = two_sites(), Rate(3, 1, 6)
        self.assertEqual(town.changed(0, capacity=9).lane(0), Road(9, rate=RATE))
        self.assertEqual(town.changed(0, rate=rate, bus=3).lane(0), Road(3, rate=rate, bus=3))
        self.assertEqual(town.changed(0, rate=None).lane(0), Road(3))
        self.assertEqual(town.changed(1, bus=1, rate=rate, capacity=0).lane(1), Road(0, rate=rate, bus=1))
        self.assertEqual(town.changed(0, bus=2).changed(0, bus=0, capacity=3), town)
        self.assertEqual(town.changed(2), town)

    def test_unknown_lanes_and_names(self):
        town = two_sites()
        for number in (-1, 5, 10 ** 9):
            self.assert_wrong(UnknownLane, {"number": number}, town, number, bound=0, color=1)
        self.assert_wrong(UnknownName, {"name": "capacity"}, town, 4, bound=0, capacity=3, color=1)
        self.assert_wrong(UnknownName, {"name": "color"}, town, 4, color=1, capacity=3)
        self.assert_wrong(UnknownName, {"name": "bound"}, town, 0, capacity=99, bound=3)

    def test_what_lanes_sites_and_towns_raise(self):
        town = two_sites()
        self.assert_wrong(BadLane, {"part": "bound"}, town, 4, bound=25)
        self.assert_wrong(BadLane, {"part": "capacity"}, town, 0, capacity=10, bus=13)
        self.assert_wrong(BadLane, {"part": "bus"}, town, 0, bus=13)
        self.assert_wrong(BadLane, {"part": "bus"}, town, 1, bus=1)
        buses = town.changed(0, bus=1)
        self.assert_wrong(BadSite, {"part": "bus", "place": 1}, buses, 1, rate=RATE, bus=1)
        self.assert_wrong(BadLane, {"part": "bus"}, buses, 0, rate=None)
        self.assert_wrong(BadTown, {"part": "street", "place": 0}, town, 3, rate=RATE)
        full = Town([road_site(*[SOURCE] * 6), road_site(Road(1))], [0, 0], [Street((0, 0), (1, 0), 1)])
        self.assert_wrong(BadTown, {"part": "lanes", "place": 0}, full, 6, rate=RATE)
        self.assertEqual((town, len(full)), (two_sites(), 7))
