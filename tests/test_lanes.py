"""Lanes: point [48]."""

from crossinglights.errors import BadLane
from crossinglights.lanes import Foot, Lane, Road
from crossinglights.rates import Rate
from tests.support import Case


class FootTest(Case):
    def test_bounds(self):
        for bound in (1, 7, 24):
            self.assertEqual((Foot(bound).bound, Foot(bound).foot), (bound, True))
        for bound in (0, -1, 25, 10 ** 9):
            self.assert_fails(BadLane, {"part": "bound"}, Foot, bound)

    def test_told(self):
        self.assertEqual([Foot(1).told(), Foot(24).told()], ["foot 1", "foot 24"])


class RoadTest(Case):
    def test_attributes(self):
        rate = Rate(2, 1, 4)
        road = Road(3, rate=rate, bus=5)
        self.assertEqual((road.capacity, road.rate, road.bus, road.bound, road.foot), (3, rate, 5, 5, False))
        road = Road(0)
        self.assertEqual((road.capacity, road.rate, road.bus, road.bound), (0, None, 0, 0))
        for capacity, bus in ((0, 1), (9, 12), (9, 0)):
            self.assertEqual(Road(capacity, rate=rate, bus=bus).bus, bus)
        with self.assertRaises(TypeError):
            Road(3, rate)

    def test_wrong_parts(self):
        rate = Rate(1, 1, 2)
        for capacity in (-1, 10, 10 ** 9):
            self.assert_fails(BadLane, {"part": "capacity"}, lambda: Road(capacity, rate=rate, bus=13))
        for bus in (-1, 13, -10 ** 9):
            self.assert_fails(BadLane, {"part": "bus"}, lambda: Road(9, rate=rate, bus=bus))
            self.assert_fails(BadLane, {"part": "bus"}, lambda: Road(9, bus=bus))
        for bus in (1, 12):
            self.assert_fails(BadLane, {"part": "bus"}, lambda: Road(0, bus=bus))
            self.assert_fails(BadLane, {"part": "bus"}, lambda: Road(0, rate=None, bus=bus))

    def test_told(self):
        found = [Road(0).told(), Road(9, rate=Rate(3, 5, 6)).told(), Road(1, rate=Rate(1, 1, 1), bus=12).told()]
        self.assertEqual(found, ["road 0", "road 9 rate 3 5/6", "road 1 rate 1 1/1 bus 12"])


class LaneTest(Case):
    def test_lane(self):
        for bound in (-10 ** 9, 0, 25):
            self.assertEqual((Lane(bound).bound, Lane(bound).foot), (bound, False))
        self.assertEqual((Lane(25).told(), Lane(-3).told()), ("lane 25", "lane -3"))
        self.assertEqual((Foot.__bases__, Road.__bases__), ((Lane,), (Lane,)))
        for kind in (Lane, Foot, Road):
            self.assertIn("told", vars(kind))

    def test_equality(self):
        rate = Rate(1, 1, 2)
        lanes = [Foot(3), Foot(4), Road(3), Road(4), Road(3, rate=rate), Road(3, rate=Rate(2, 1, 2)),
                 Road(3, rate=rate, bus=3), Road(3, rate=rate, bus=4), Lane(3), Lane(3)]
        for first, lane in enumerate(lanes):
            for second, other in enumerate(lanes):
                self.assertIs(lane == other, first == second)
                self.assertIs(lane != other, first != second)
        self.assertEqual(Foot(3), Foot(3))
        self.assertEqual(Road(3, rate=rate, bus=3), Road(3, rate=Rate(1, 1, 2), bus=3))
        self.assertEqual(Road(3), Road(3, rate=None, bus=0))
        self.assertNotEqual(Foot(3), 3)

    def test_example_of_the_interface(self):
        found = [Foot(6).told(), Road(3).told(), Road(3, rate=Rate(2, 1, 4), bus=5).told()]
        self.assertEqual(found, ["foot 6", "road 3", "road 3 rate 2 1/4 bus 5"])
