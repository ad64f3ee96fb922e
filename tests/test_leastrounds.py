"""Least rounds over all orders: point [20]."""

import itertools
import random

from crossinglights.errors import BadPlan, LongRound, TooMany
from crossinglights.leastrounds import least_round
from crossinglights.orders import earliest, least_length, tightest
from crossinglights.plannets import plan_net
from crossinglights.settling import Setting, settle
from tests.support import Case, crossing_of, full_crossing, random_crossing, ring_crossing


def wanted_orders(crossing):
    """All orders that begin with stream 0, ascending."""
    return [(0, *tail) for tail in itertools.permutations(range(1, len(crossing)))]


def some_rounds(seed, count, streams, greatest=4, green=4):
    """Random crossings with greens."""
    rng = random.Random(seed)
    for _ in range(count):
        crossing = random_crossing(rng, rng.randint(1, streams), greatest)
        yield crossing, [rng.randint(1, green) for _ in crossing.streams]


class LeastRoundTest(Case):
    def check(self, crossing, greens):
        found = least_round(crossing, greens)
        orders = wanted_orders(crossing)
        lengths = [(least_length(crossing, greens, order), order) for order in orders]
        self.assertEqual((found.length, found.order), min(lengths))
        self.assertEqual(found.plan, earliest(crossing, found.length, greens, found.order))
        self.assertEqual(found.rings, [(order, tightest(crossing, greens, order)[2]) for order in orders])
        self.assertEqual(found.rings, sorted(found.rings))

    def test_least_rounds(self):
        for crossing, greens in some_rounds(1, 40, 4):
            self.check(crossing, greens)

    def test_five_streams(self):
        for crossing, greens in some_rounds(2, 6, 5):
            self.check(crossing, greens)
        self.check(ring_crossing(5), [1, 2, 3, 2, 1])
        self.assertEqual(len(least_round(crossing_of(5), [1] * 5).rings), 24)

    def test_one_stream(self):
        found = least_round(crossing_of(1), (60,))
        self.assertEqual((found.length, found.order, found.rings), (60, (0,), [((0,), (0,))]))
        self.assertEqual((found.plan.begins, found.plan.greens), ((0,), (60,)))

    def test_attributes_in_order(self):
        found = least_round(crossing_of(2, (0, 1, 1, 1)), [1, 1])
        self.assertEqual(list(vars(found))[:4], ["length", "order", "plan", "rings"])
        self.assertEqual((found.length, found.order, found.rings), (4, (0, 1), [((0, 1), (0, 1))]))

    def test_a_plan_exists_exactly_from_this_length_on(self):
        for crossing, greens in some_rounds(3, 50, 3, greatest=2, green=3):
            least = least_round(crossing, greens).length
            for length in range(max(greens), 15):
                good = isinstance(settle(plan_net(crossing, length, greens)), Setting)
                self.assertIs(good, length >= least)

    def test_six_streams_are_too_many(self):
        self.assert_fails(TooMany, {"number": 6}, least_round, crossing_of(6), [0])
        self.assert_fails(TooMany, {"number": 6}, least_round, full_crossing(6, 1), [60] * 6)

    def test_wrong_greens(self):
        crossing = crossing_of(2, (0, 1, 9, 9))
        for greens, place in (([], 0), ([60], 1), ([60, 60, 60], 2), ([61, 0], 0), ([60, 0], 1), ((60, -1), 1)):
            self.assert_fails(BadPlan, {"part": "greens", "place": place}, least_round, crossing, greens)

    def test_long_rounds(self):
        crossing = crossing_of(2, (0, 1, 0, 0))
        self.assertEqual(least_round(crossing, [30, 30]).length, 60)
        self.assert_fails(LongRound, {"number": 61}, least_round, crossing, [30, 31])
        self.assert_fails(LongRound, {"number": 138}, least_round, crossing_of(2, (0, 1, 9, 9)), [60, 60])
